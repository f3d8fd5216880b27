/-
  What is proved: ether's readFrame by contract.
  Conditions: the reader holds fewer than 2^40 bytes.
-/
import Derived.Test.YtifjelinojndoaaDoorEType
import Derived.Test.YtifjelinojndoaaDoorBlk
namespace Go.Proofs.YtifjelinojndoaaDoor
open Go.RowKit

def M6.row (m : M6) : Array Value := #[.int .u8 m.a.toNat, .int .u8 m.b.toNat, .int .u8 m.c.toNat, .int .u8 m.d.toNat, .int .u8 m.e.toNat, .int .u8 m.f.toNat]
def M6.obj (m : M6) : Obj := .cells #[.int .u8 m.a.toNat, .int .u8 m.b.toNat, .int .u8 m.c.toNat, .int .u8 m.d.toNat, .int .u8 m.e.toNat, .int .u8 m.f.toNat] 24
/-- A frame as a value; 'bv' is the slice of its bytes. -/
def frmRow (dst src : M6) (vlan : Int) (ty : Nat) (bv : Value) : Array Value :=
  #[.int .u8 dst.a.toNat, .int .u8 dst.b.toNat, .int .u8 dst.c.toNat, .int .u8 dst.d.toNat, .int .u8 dst.e.toNat, .int .u8 dst.f.toNat,
    .int .u8 src.a.toNat, .int .u8 src.b.toNat, .int .u8 src.c.toNat, .int .u8 src.d.toNat, .int .u8 src.e.toNat, .int .u8 src.f.toNat, .int .i64 vlan, .int .u16 ty, bv]
def M6.zero : M6 := ⟨0, 0, 0, 0, 0, 0⟩
def Frm.val (f : Frm) (bv : Value) : Value := .agg (frmRow f.dst f.src f.vlan f.ty bv)
/-- No frame. -/
def noFrm : Value := .agg (frmRow .zero .zero 0 0 (.slice none 0 0))
def noRow : Array Value := #[.int .u8 0, .int .u8 0, .int .u8 0, .int .u8 0, .int .u8 0, .int .u8 0, .int .u8 0, .int .u8 0, .int .u8 0, .int .u8 0, .int .u8 0, .int .u8 0, .int .i64 0, .int .u16 0, .slice none 0 0]
def noObj : Obj := .cells #[.int .u8 0, .int .u8 0, .int .u8 0, .int .u8 0, .int .u8 0, .int .u8 0, .int .u8 0, .int .u8 0, .int .u8 0, .int .u8 0, .int .u8 0, .int .u8 0, .int .i64 0, .int .u16 0, .slice none 0 0] 27

theorem M6.cells {w : World} {g : Nat} {m : M6} (h : w.heap[g]? = some m.obj) :
    w.cell? ⟨g, 0, none⟩ = some (.int .u8 m.a.toNat) ∧ w.cell? ⟨g, 1, none⟩ = some (.int .u8 m.b.toNat) ∧ w.cell? ⟨g, 2, none⟩ = some (.int .u8 m.c.toNat) ∧
    w.cell? ⟨g, 3, none⟩ = some (.int .u8 m.d.toNat) ∧ w.cell? ⟨g, 4, none⟩ = some (.int .u8 m.e.toNat) ∧ w.cell? ⟨g, 5, none⟩ = some (.int .u8 m.f.toNat) := by
  unfold M6.obj at h
  refine ⟨?_, ?_, ?_, ?_, ?_, ?_⟩ <;> (rw [cell_of_row w g _ _ _ _ h]; rfl)

theorem frmSize : (Tryd.prog.info? 27).map (·.size) = some 15 := by kernel_rfl
theorem noRow_one : noRow.all (·.oneCell') = true := by simp [noRow, Value.oneCell']
theorem frmRow_one (d s : M6) (v : Int) (t : Nat) (A : Option Addr) (n c : Nat) : (frmRow d s v t (.slice A n c)).all (·.oneCell') = true := by simp [frmRow, Value.oneCell']
theorem noObj_plain : Plain #[.int .u8 0, .int .u8 0, .int .u8 0, .int .u8 0, .int .u8 0, .int .u8 0, .int .u8 0, .int .u8 0, .int .u8 0, .int .u8 0, .int .u8 0, .int .u8 0, .int .i64 0, .int .u16 0, .slice none 0 0] := by
  intro v hv
  simp only [List.mem_cons, List.not_mem_nil, or_false] at hv
  rcases hv with rfl | rfl | rfl | rfl | rfl | rfl | rfl | rfl | rfl | rfl | rfl | rfl | rfl | rfl | rfl <;> exact ⟨(fun _ e => by cases e), (fun _ _ e => by cases e)⟩

set_option maxHeartbeats 1000000 in
theorem readFrame_shortA (p : Addr) (bs : List UInt8) (w : World) (h : Rdr w p bs) (hn : bs.length < 6) :
    Calls Tryd.prog 14 #[.pointer (some p)] w fun e w' => ∃ b, e = .returned (.tuple #[noFrm, .iface 64 (.pointer (some ⟨b, 0, none⟩))]) ∧ ErrAt w' b ∧ Fr (· = p) w w' := by
  have hb : Below w.heap.size w (w.alloc noObj) := below_al (Below.refl _ _) _
  have HT := Lib.hid (readAddress_short p bs (w.alloc noObj) (h.below hb) hn)
  clear h hb
  go_enter Tryd.func14, Tryd.ntmps14
  go_wp2_with fail
  refine HT.out.mono ?_
  rintro e w1 ⟨b, rfl, hc, hb⟩
  clear HT
  have hs : w.heap.size < w1.heap.size := by have := hb.size; simp at this; omega
  have hR : (w1.alloc M6.zero.obj).heap[w.heap.size]? = some noObj := by rw [heap_alloc_old _ _ hs]; exact (hb.block w.heap.size (by simp)).trans (heap_alloc_new w _)
  have hC : ErrAt (w1.alloc M6.zero.obj) b := hc.below (below_al (Below.refl _ _) _)
  have hF : Fr (· = p) w (w1.alloc M6.zero.obj) := Fr.of_below (below_al (below_to (below_al (Below.refl _ _) _) hb (by simp)) _)
  have HR := Lib.hid hR
  have HC := Lib.hid hC
  have HF := Lib.hid hF
  clear hR hC hF hc hb hs
  unfold M6.val
  go_wp2_with (refine wpList_store_row rfl 27 (.tmp 2) (.tmp 16) rfl w.heap.size noRow rfl rfl 27 _ HR.out frmSize rfl noRow_one ?_)
  (try simp only [Exit.inBlock, Exit.then])
  refine bodyPost_ret (results_cell_tmp_row rfl _ _ w.heap.size _ noRow (0, 0) _ rfl (setRow_heap _ _ _ _ _ _ HR.out) Tryd.underlying27 rfl frmSize) rfl ?_
  exact ⟨b, rfl, HC.out.row HR.out noObj_plain, HF.out.row (Nat.le_refl _) _⟩

set_option maxHeartbeats 1000000 in
theorem readFrame_shortB (p : Addr) (g : Nat) (hpg : p.block ≠ g) (d : M6) (r : List UInt8) (w : World) (h : RdrG w p g (d.bs ++ r)) (hn : r.length < 6) :
    Calls Tryd.prog 14 #[.pointer (some p)] w fun e w' => ∃ b, e = .returned (.tuple #[noFrm, .iface 64 (.pointer (some ⟨b, 0, none⟩))]) ∧ ErrAt w' b ∧ Fr (· = p) w w' := by
  have hp := h.at_
  have hb : Below w.heap.size w (w.alloc noObj) := below_al (Below.refl _ _) _
  have HT := Lib.hid (readAddress_ok p g hpg d r (w.alloc noObj) (h.below hb) (by simp [M6.bs]; omega))
  clear h
  go_enter Tryd.func14, Tryd.ntmps14
  go_wp2_with fail
  refine HT.out.mono ?_
  rintro e w1 ⟨rfl, hr, hf⟩
  clear HT
  have hs : w.heap.size < w1.heap.size := by have := hf.size; simp at this; omega
  have hR : w1.heap[w.heap.size]? = some noObj := (hf.block w.heap.size (by simp) (fun a ha => by subst ha; omega)).trans (heap_alloc_new w _)
  have hF : Fr (· = p) w w1 := (Fr.of_below hb).trans hf
  have HT := Lib.hid (readAddress_short p r (w1.alloc d.obj) (hr.rdr.below (below_al (Below.refl _ _) _)) hn)
  have HR := Lib.hid hR
  have HF := Lib.hid hF
  have HS := Lib.hid hs
  clear hR hF hf hb hs hr
  unfold M6.val
  go_wp2_with fail
  refine HT.out.mono ?_
  rintro e w2 ⟨b, rfl, hc, hb⟩
  clear HT
  have hs1 := HS.out
  have hs : w1.heap.size < w2.heap.size := by have := hb.size; simp at this; omega
  have hb1 : Below w1.heap.size w1 w2 := below_to (below_al (Below.refl _ _) _) hb (by simp)
  have hR : (w2.alloc M6.zero.obj).heap[w.heap.size]? = some noObj := by rw [heap_alloc_old _ _ (by omega), hb1.block _ hs1]; exact HR.out
  have hC : ErrAt (w2.alloc M6.zero.obj) b := hc.below (below_al (Below.refl _ _) _)
  have hF : Fr (· = p) w (w2.alloc M6.zero.obj) := HF.out.trans (Fr.of_below (below_al hb1 _))
  clear HR HF HS
  have HR := Lib.hid hR
  have HC := Lib.hid hC
  have HF := Lib.hid hF
  clear hR hC hF hc hb hs hb1 hs1 hp
  unfold M6.val
  go_wp2_with (refine wpList_store_row rfl 27 (.tmp 2) (.tmp 25) rfl w.heap.size noRow rfl rfl 27 _ HR.out frmSize rfl noRow_one ?_)
  (try simp only [Exit.inBlock, Exit.then])
  refine bodyPost_ret (results_cell_tmp_row rfl _ _ w.heap.size _ noRow (0, 0) _ rfl (setRow_heap _ _ _ _ _ _ HR.out) Tryd.underlying27 rfl frmSize) rfl ?_
  exact ⟨b, rfl, HC.out.row HR.out noObj_plain, HF.out.row (Nat.le_refl _) _⟩

set_option maxHeartbeats 1000000 in
theorem readFrame_shortT (p : Addr) (g : Nat) (hpg : p.block ≠ g) (d s : M6) (r : List UInt8) (w : World) (h : RdrG w p g (d.bs ++ (s.bs ++ r))) (hn : TShort r) (hL : (d.bs ++ (s.bs ++ r)).length ≤ 1099511627776) :
    Calls Tryd.prog 14 #[.pointer (some p)] w fun e w' => ∃ b, e = .returned (.tuple #[noFrm, .iface 64 (.pointer (some ⟨b, 0, none⟩))]) ∧ ErrAt w' b ∧ Fr (· = p) w w' := by
  have hp := h.at_
  have hb : Below w.heap.size w (w.alloc noObj) := below_al (Below.refl _ _) _
  have HT := Lib.hid (readAddress_ok p g hpg d (s.bs ++ r) (w.alloc noObj) (h.below hb) hL)
  have HL := Lib.hid hL
  clear h hL
  go_enter Tryd.func14, Tryd.ntmps14
  go_wp2_with fail
  refine HT.out.mono ?_
  rintro e w1 ⟨rfl, hr, hf⟩
  clear HT
  have hs : w.heap.size < w1.heap.size := by have := hf.size; simp at this; omega
  have hR : w1.heap[w.heap.size]? = some noObj := (hf.block w.heap.size (by simp) (fun a ha => by subst ha; omega)).trans (heap_alloc_new w _)
  have hF : Fr (· = p) w w1 := (Fr.of_below hb).trans hf
  have HT := Lib.hid (readAddress_ok p g hpg s r (w1.alloc d.obj) (hr.below (below_al (Below.refl _ _) _)) (by have := HL.out; simp [M6.bs] at this ⊢; omega))
  have HR := Lib.hid hR
  have HF := Lib.hid hF
  have HS := Lib.hid hs
  clear hR hF hf hb hs hr
  unfold M6.val
  go_wp2_with fail
  refine HT.out.mono ?_
  rintro e w2 ⟨rfl, hr, hf⟩
  clear HT
  have hs1 := HS.out
  have hs : w1.heap.size < w2.heap.size := by have := hf.size; simp at this; omega
  have hf1 : Fr (· = p) w1 w2 := (Fr.of_below (below_al (Below.refl _ _) _)).trans hf
  have hR : (w2.alloc s.obj).heap[w.heap.size]? = some noObj := by
    rw [heap_alloc_old _ _ (by omega), hf1.block _ hs1 (fun a ha => by subst ha; omega)]
    exact HR.out
  have hF : Fr (· = p) w (w2.alloc s.obj) := HF.out.trans (hf1.alloc _)
  have HT := Lib.hid (readType_short p g hpg r hn (w2.alloc s.obj) (hr.below (below_al (Below.refl _ _) _)) (by have := HL.out; simp [M6.bs] at this ⊢; omega))
  clear HR HF HS
  have HR := Lib.hid hR
  have HF := Lib.hid hF
  have HS := Lib.hid (Nat.lt_trans hs1 hs)
  clear hR hF hf hf1 hs hr hs1
  unfold M6.val
  go_wp2_with fail
  refine HT.out.mono ?_
  rintro e w3 ⟨x, y, b, rfl, hc, hf⟩
  clear HT
  have hR : w3.heap[w.heap.size]? = some noObj := by
    rw [hf.block _ (by have := HS.out; simp; omega) (fun a ha => by subst ha; omega)]
    exact HR.out
  have hF : Fr (· = p) w w3 := HF.out.trans hf
  clear HR HF HS
  have HR := Lib.hid hR
  have HC := Lib.hid hc
  have HF := Lib.hid hF
  clear hR hF hc hf hp
  go_wp2_with (refine wpList_store_row rfl 27 (.tmp 2) (.tmp 35) rfl w.heap.size noRow rfl rfl 27 _ HR.out frmSize rfl noRow_one ?_)
  (try simp only [Exit.inBlock, Exit.then])
  refine bodyPost_ret (results_cell_tmp_row rfl _ _ w.heap.size _ noRow (0, 0) _ rfl (setRow_heap _ _ _ _ _ _ HR.out) Tryd.underlying27 rfl frmSize) rfl ?_
  exact ⟨b, rfl, HC.out.row HR.out noObj_plain, HF.out.row (Nat.le_refl _) _⟩
end Go.Proofs.YtifjelinojndoaaDoor
