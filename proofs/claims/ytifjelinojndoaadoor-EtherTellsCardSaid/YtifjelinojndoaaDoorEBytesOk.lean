/-
  What is proved: ether.Frame's Bytes where it answers an error, by contract; the fields of a frame that lies in a block.
  Conditions: the frame's bytes are fewer than 2^40.
-/
import Derived.Test.YtifjelinojndoaaDoorEBytes
import Derived.Test.YtifjelinojndoaaDoorOneW
import Derived.Deep.RegionLaw
namespace Go.Proofs.YtifjelinojndoaaDoor
open Go.RowKit

/-- An error of ether's own. -/
def EErr (n : Int) (w : World) (e : Ending) (w' : World) : Prop := ∃ b, e = .returned (.tuple #[.slice none 0 0, .iface 64 (.pointer (some ⟨b, 0, none⟩))]) ∧ Chain w' n [etherWord] (.iface 64 (.pointer (some ⟨b, 0, none⟩))) ∧ Below w.heap.size w w'

theorem chain_at {w : World} {n : Int} {l : List ByteArray} {a b : Nat} (h : Chain w n l (.iface 64 (.pointer (some ⟨a, 0, none⟩)))) (e : a = b) : Chain w n l (.iface 64 (.pointer (some ⟨b, 0, none⟩))) := e ▸ h

/-- The fields of a frame that lies in a block. -/
theorem frm_cells {W : World} {G : Nat} {f : Frm} {bv : Value} (h : W.heap[G]? = some (f.obj bv)) :
    W.cell? ⟨G, 12, none⟩ = some (.int .i64 f.vlan) ∧ W.cell? ⟨G, 13, none⟩ = some (.int .u16 f.ty) ∧ W.cell? ⟨G, 14, none⟩ = some bv := by
  unfold Frm.obj at h
  refine ⟨?_, ?_, ?_⟩ <;> (rw [cell_of_row W G _ _ _ _ h]; rfl)
theorem frm_dst {W : World} {G : Nat} {f : Frm} {bv : Value} (h : W.heap[G]? = some (f.obj bv)) : Rd W (.slice (some ⟨G, 0, none⟩) 6 6) f.dst.bs := by
  unfold Frm.obj at h
  refine ⟨_, 6, rfl, Nat.le_refl _, fun _ => ⟨G, 0, rfl, fun i u hu => ?_⟩⟩
  rw [cell_of_row W G _ _ _ _ h]
  match i, hu with
  | 0, hu | 1, hu | 2, hu | 3, hu | 4, hu | 5, hu => cases hu; rfl
  | i + 6, hu => cases hu
theorem frm_src {W : World} {G : Nat} {f : Frm} {bv : Value} (h : W.heap[G]? = some (f.obj bv)) : Rd W (.slice (some ⟨G, 6, none⟩) 6 6) f.src.bs := by
  unfold Frm.obj at h
  refine ⟨_, 6, rfl, Nat.le_refl _, fun _ => ⟨G, 6, rfl, fun i u hu => ?_⟩⟩
  rw [cell_of_row W G _ _ _ _ h]
  match i, hu with
  | 0, hu | 1, hu | 2, hu | 3, hu | 4, hu | 5, hu => cases hu; rfl
  | i + 6, hu => cases hu

theorem fBytes_arg (f : Frm) (hf : f.Bad) (A : Option Addr) (n c : Nat) (w : World) :
    Calls Tryd.prog 9 #[f.val (.slice A n c)] w (EErr 1 w) := by
  have HT := Lib.hid (canBeTold_bad f hf A n c (w.alloc (f.obj (.slice A n c))))
  clear hf
  unfold Frm.val frmRow
  unfold Frm.obj Frm.val frmRow at HT
  go_enter Tryd.func9, Tryd.ntmps9
  go_wp2_with fail
  refine HT.out.mono ?_
  rintro e w' ⟨rfl, rfl⟩
  go_wp2_with fail
  refine (wrap_any _ _ _ _).mono ?_
  rintro e w' ⟨rfl, rfl⟩
  go_wp2_with fail
  go_ret2
  exact ⟨_, rfl, chain_at (chain_one ((w.alloc (f.obj (.slice A n c))).alloc (f.obj (.slice A n c))) etherWord 1) (by simp), below_al (below_al (below_al (Below.refl _ _) _) _) _⟩
theorem fBytes_big (f : Frm) (hf : f.Ok) (A : Option Addr) (n c : Nat) (hn : 9000 < f.head + n) (hl : n ≤ 1099511627776) (w : World) :
    Calls Tryd.prog 9 #[f.val (.slice A n c)] w (EErr 7 w) := by
  have HT := Lib.hid (canBeTold_ok f hf A n c (w.alloc (f.obj (.slice A n c))))
  have HS := Lib.hid (fsize_any f A n c hl ((w.alloc (f.obj (.slice A n c))).alloc (f.obj (.slice A n c))))
  have hd : decide ((9000 : Int) < ((f.head + n : Nat) : Int)) = true := by simp; omega
  have hd2 : (9000 : Int) < ((f.head + n : Nat) : Int) := by omega
  generalize f.head + n = L at *
  clear hf hn hl
  unfold Frm.val frmRow
  unfold Frm.obj Frm.val frmRow at HT HS
  go_enter Tryd.func9, Tryd.ntmps9
  go_wp2_with fail
  refine HT.out.mono ?_
  rintro e w' ⟨rfl, rfl⟩
  go_wp2_with fail
  refine HS.out.mono ?_
  rintro e w' ⟨rfl, rfl⟩
  go_wp2_with fail
  refine (wrap_any _ _ _ _).mono ?_
  rintro e w' ⟨rfl, rfl⟩
  go_wp2_with fail
  go_ret2
  exact ⟨_, rfl, chain_at (chain_one (((w.alloc (f.obj (.slice A n c))).alloc (f.obj (.slice A n c))).alloc (f.obj (.slice A n c))) etherWord 7) (by simp), below_al (below_al (below_al (below_al (Below.refl _ _) _) _) _) _⟩
end Go.Proofs.YtifjelinojndoaaDoor
