/-
  What is proved: 'of' of the laws of layer 4 by contract: the document's packet of a packet.
  Conditions: the packet's numbers fit their types.
-/
import Derived.Test.YthinmonahnbkdaaDoorAPkt
import Derived.StillTailTactics
import Derived.BigQuiet
import Derived.Deep.QuietTactic
namespace Go.Proofs.YthinmonahnbkdaaDoor
open Go.RowKit

/-- The document's packet. -/
def refPktRow (p : Pkt) : Array Value := #[.int .u32 p.op, .string (txt p.sha.bs), .string (txt p.tha.bs), .int .u32 p.spa, .int .u32 p.tpa]
def refPktZero : Array Value := #[.int .u32 0, .string ⟨#[]⟩, .string ⟨#[]⟩, .int .u32 0, .int .u32 0]
theorem refPktSize : (Tryd.prog.info? 36).map (·.size) = some 5 := by kernel_rfl
theorem refPktRow_one (p : Pkt) : (refPktRow p).all (·.oneCell') = true := by simp [refPktRow, Value.oneCell']

set_option maxRecDepth 100000 in
set_option maxHeartbeats 1000000 in
theorem aOf_any (p : Pkt) (w : World) (hp : p.In) :
    Calls Tryd.prog 8 #[p.val] w fun e w' => e = .returned (.agg (refPktRow p)) ∧ Below w.heap.size w w' := by
  have hx := PktAt.new w p
  have hn : Below (w.alloc p.obj).heap.size (w.alloc p.obj) ((w.alloc p.obj).alloc (.cells refPktZero 36)) := below_al (Below.refl _ _) _
  have hw : Below w.heap.size w ((w.alloc p.obj).alloc (.cells refPktZero 36)) := below_al (below_al (Below.refl _ _) _) _
  have hx2 := hx.below hn
  have hz : ((w.alloc p.obj).alloc (.cells refPktZero 36)).heap[w.heap.size + 1]? = some (.cells refPktZero 36) := by
    have := heap_alloc_new (w.alloc p.obj) (.cells refPktZero 36)
    simpa using this
  rw [Pkt.val_lit]
  have HX := Lib.hid hx2
  have HW := Lib.hid hw
  have HZ := Lib.hid hz
  clear hx hn hw hx2 hz
  go_enter Tryd.func8, Tryd.ntmps8
  go_wp2_with fail
  generalize hW : (w.alloc p.obj).alloc (.cells refPktZero 36) = W at HX HW HZ
  unfold Pkt.obj refPktZero at hW
  rw [hW]
  clear hW
  refine wp_region_still_tail 14 (by kernel_rfl) (by kernel_rfl) ?_
  generalize hD : ({ W with drawn := W.drawn + 1 } : World) = D
  have HD : D = W.drew := hD.symm
  have v1 : (convert 22 9 (.slice (some ⟨w.heap.size, 1, none⟩) 6 6)).run Tryd.prog D = .ok (.string (txt p.sha.bs)) D := by rw [HD]; exact convert_rd (HX.out.sha.drewN 1)
  have v2 : (convert 22 9 (.slice (some ⟨w.heap.size, 8, none⟩) 6 6)).run Tryd.prog D = .ok (.string (txt p.tha.bs)) D := by rw [HD]; exact convert_rd (HX.out.tha.drewN 1)
  have hX : PktAt D w.heap.size p := by rw [HD]; exact HX.out
  have hZ : D.heap[w.heap.size + 1]? = some (.cells refPktZero 36) := by rw [HD]; exact HZ.out
  have hB : Below w.heap.size w D := by rw [HD]; exact below_drewN HW.out 1
  have c0 := hX.cells.1
  have c7 := hX.cells.2.2.2.2.2.2.2.1
  have c14 := hX.cells.2.2.2.2.2.2.2.2.2.2.2.2.2.2
  have HZ := Lib.hid hZ
  have HB := Lib.hid hB
  clear hD HD HX HW hX hZ hB
  have hop := hp.op
  have hmod : IntKind.u32.wrap (p.op : Int) = (p.op : Int) := u32_fits _ (by omega) (by omega)
  clear hp hop
  simp only [List.take_succ_cons, List.take_zero, List.drop_succ_cons, List.drop_zero]
  repeat still_step
  refine wpStill_nil ?_
  clear hmod v1 v2 c0 c7 c14
  go_wp2_with (refine wpList_store_row rfl 36 (.tmp 2) (.tmp 16) rfl (w.heap.size + 1) (refPktRow p) rfl rfl 36 _ HZ.out refPktSize rfl (refPktRow_one p) ?_)
  go_wp2_with fail
  (try simp only [Exit.inBlock, Exit.then])
  refine bodyPost_ret (results_cell_row rfl _ _ (w.heap.size + 1) _ (refPktRow p) (0, 0) _ rfl (setRow_heap _ _ _ _ _ _ HZ.out) Tryd.underlying36 rfl refPktSize) rfl ?_
  exact ⟨rfl, ((Fr.of_below (p := fun a => a.block = w.heap.size + 1) HB.out).then (Fr.of_row D (w.heap.size + 1) _) (fun x hx _ => hx)).below (Nat.le_refl _) (fun x hx => by omega)⟩
end Go.Proofs.YthinmonahnbkdaaDoor
