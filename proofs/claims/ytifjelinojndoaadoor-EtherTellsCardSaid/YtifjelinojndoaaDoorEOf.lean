/-
  What is proved: 'of' of the laws of layer 3 by contract: the document's frame of a frame.
  Conditions: none of its own.
-/
import Derived.Test.YtifjelinojndoaaDoorEBox
import Derived.StillTailTactics
import Derived.BigQuiet
import Derived.Deep.QuietTactic
namespace Go.Proofs.YtifjelinojndoaaDoor
open Go.RowKit

theorem u32_fits (z : Int) (h1 : 0 ≤ z) (h2 : z < 4294967296) : IntKind.u32.wrap z = z := by
  have a : IntKind.u32.bits = 32 := rfl
  have b : IntKind.u32.signed = false := rfl
  simp only [IntKind.wrap, a, b]
  simp
  omega
/-- The document's frame. -/
def refRow (f : Frm) : Array Value := #[.string (txt f.dst.bs), .string (txt f.src.bs), .int .i64 f.vlan, .int .u32 f.ty, .string (txt f.b)]
def refZero : Array Value := #[.string ⟨#[]⟩, .string ⟨#[]⟩, .int .i64 0, .int .u32 0, .string ⟨#[]⟩]
theorem refSize : (Tryd.prog.info? 35).map (·.size) = some 5 := by kernel_rfl
theorem refRow_one (f : Frm) : (refRow f).all (·.oneCell') = true := by simp [refRow, Value.oneCell']

set_option maxRecDepth 100000 in
set_option maxHeartbeats 1000000 in
theorem of_any (f : Frm) (A : Option Addr) (c : Nat) (w : World) (hty : f.ty < 65536) (hr : Rd w (.slice A f.b.length c) f.b) :
    Calls Tryd.prog 8 #[f.val (.slice A f.b.length c)] w fun e w' => e = .returned (.agg (refRow f)) ∧ Below w.heap.size w w' := by
  have hx := BoxAt.new w f (.slice A f.b.length c)
  have hn : Below (w.alloc (f.obj (.slice A f.b.length c))).heap.size (w.alloc (f.obj (.slice A f.b.length c))) ((w.alloc (f.obj (.slice A f.b.length c))).alloc (.cells refZero 35)) := below_al (Below.refl _ _) _
  have hw : Below w.heap.size w ((w.alloc (f.obj (.slice A f.b.length c))).alloc (.cells refZero 35)) := below_al (below_al (Below.refl _ _) _) _
  have hx2 := hx.below hn
  have hr2 := hr.below hw
  have hz : ((w.alloc (f.obj (.slice A f.b.length c))).alloc (.cells refZero 35)).heap[w.heap.size + 1]? = some (.cells refZero 35) := by
    have := heap_alloc_new (w.alloc (f.obj (.slice A f.b.length c))) (.cells refZero 35)
    simpa using this
  rw [show f.val (.slice A f.b.length c) = .agg #[.int .u8 f.dst.a.toNat, .int .u8 f.dst.b.toNat, .int .u8 f.dst.c.toNat, .int .u8 f.dst.d.toNat, .int .u8 f.dst.e.toNat, .int .u8 f.dst.f.toNat,
    .int .u8 f.src.a.toNat, .int .u8 f.src.b.toNat, .int .u8 f.src.c.toNat, .int .u8 f.src.d.toNat, .int .u8 f.src.e.toNat, .int .u8 f.src.f.toNat, .int .i64 f.vlan, .int .u16 f.ty, .slice A f.b.length c] from rfl]
  have HX := Lib.hid hx2
  have HR := Lib.hid hr2
  have HW := Lib.hid hw
  have HZ := Lib.hid hz
  clear hr hx hn hw hx2 hr2 hz
  go_enter Tryd.func8, Tryd.ntmps8
  go_wp2_with fail
  generalize hW : (w.alloc (f.obj (.slice A f.b.length c))).alloc (.cells refZero 35) = W at HX HR HW HZ
  unfold Frm.obj refZero at hW
  rw [hW]
  clear hW
  refine wp_region_still_tail 15 (by kernel_rfl) (by kernel_rfl) ?_
  generalize hD : ({ W with drawn := W.drawn + 1 } : World) = D
  have HD : D = W.drew := hD.symm
  have v1 : (convert 22 9 (.slice (some ⟨w.heap.size, 0, none⟩) 6 6)).run Tryd.prog D = .ok (.string (txt f.dst.bs)) D := by rw [HD]; exact convert_rd ((frm_dst HX.out).drewN 1)
  have v2 : (convert 22 9 (.slice (some ⟨w.heap.size, 6, none⟩) 6 6)).run Tryd.prog D = .ok (.string (txt f.src.bs)) D := by rw [HD]; exact convert_rd ((frm_src HX.out).drewN 1)
  have v3 : (convert 22 9 (.slice A f.b.length c)).run Tryd.prog D = .ok (.string (txt f.b)) D := by rw [HD]; exact convert_rd (HR.out.drewN 1)
  have hX : BoxAt D w.heap.size f (.slice A f.b.length c) := by rw [HD]; exact HX.out
  have hZ : D.heap[w.heap.size + 1]? = some (.cells refZero 35) := by rw [HD]; exact HZ.out
  have hB : Below w.heap.size w D := by rw [HD]; exact below_drewN HW.out 1
  obtain ⟨c12, c13, c14⟩ := frm_cells hX
  have HZ := Lib.hid hZ
  have HB := Lib.hid hB
  clear hD HD HX HR HW hX hZ hB
  have hmod : IntKind.u32.wrap (f.ty : Int) = (f.ty : Int) := u32_fits _ (by omega) (by omega)
  simp only [List.take_succ_cons, List.take_zero, List.drop_succ_cons, List.drop_zero]
  repeat still_step
  refine wpStill_nil ?_
  clear hmod v1 v2 v3 c12 c13 c14
  go_wp2_with (refine wpList_store_row rfl 35 (.tmp 2) (.tmp 17) rfl (w.heap.size + 1) (refRow f) rfl rfl 35 _ HZ.out refSize rfl (refRow_one f) ?_)
  go_wp2_with fail
  (try simp only [Exit.inBlock, Exit.then])
  refine bodyPost_ret (results_cell_row rfl _ _ (w.heap.size + 1) _ (refRow f) (0, 0) _ rfl (setRow_heap _ _ _ _ _ _ HZ.out) Tryd.underlying35 rfl refSize) rfl ?_
  exact ⟨rfl, ((Fr.of_below (p := fun a => a.block = w.heap.size + 1) HB.out).then (Fr.of_row D (w.heap.size + 1) _) (fun x hx _ => hx)).below (Nat.le_refl _) (fun x hx => by omega)⟩
end Go.Proofs.YtifjelinojndoaaDoor
