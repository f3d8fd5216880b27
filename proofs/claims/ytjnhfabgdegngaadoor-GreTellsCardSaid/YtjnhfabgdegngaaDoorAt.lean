/-
  What is proved: the reader of octets (A1) by contract, with the block that its bytes lie in: U16, Bytes, Rest.
  Conditions: the reader holds fewer than 2^40 bytes.
-/
import Derived.Test.YtjnhfabgdegngaaDoorHdl
namespace Go.Proofs.YtjnhfabgdegngaaDoor
open Go.RowKit

theorem below_al {w b : World} (h : Below w.heap.size w b) (o : Obj) : Below w.heap.size w (b.alloc o) := h.alloc h.size o
/-- At 'p' lies a reader that has the bytes 'bs' left, in the block 'g'. -/
def RdrG (w : World) (p : Addr) (g : Nat) (bs : List UInt8) : Prop :=
  ∃ A, w.cell? p = some (.slice A bs.length bs.length) ∧ w.frozen? p = false ∧ (0 < bs.length → ∃ o, A = some ⟨g, o, none⟩ ∧ ∀ i u, bs[i]? = some u → w.cell? ⟨g, o + i, none⟩ = some (B8 u))

section
variable {w w' : World} {p : Addr} {g : Nat} {bs : List UInt8} {q : Addr → Prop}
theorem RdrG.rdr (h : RdrG w p g bs) : Rdr w p bs := by
  obtain ⟨A, h1, h2, h3⟩ := h
  exact ⟨A, h1, h2, fun h0 => by obtain ⟨o, e, hi⟩ := h3 h0; exact ⟨g, o, e, hi⟩⟩
theorem RdrG.at_ (h : RdrG w p g bs) : p.block < w.heap.size := h.rdr.at_
theorem RdrG.fr (h : RdrG w p g bs) (hf : Fr q w w') (hp : ¬ q p) (hq : ∀ x, q x → x.block ≠ g) : RdrG w' p g bs := by
  have hl := h.at_
  obtain ⟨A, h1, h2, h3⟩ := h
  refine ⟨A, (hf.cell p hl hp).trans h1, (hf.frozen p hl hp).trans h2, fun h0 => ?_⟩
  obtain ⟨o, e, hi⟩ := h3 h0
  refine ⟨o, e, fun i u hu => ?_⟩
  have hc := hi i u hu
  exact (hf.cell _ (World.block_lt_of_cell? w _ hc) (fun hx => hq _ hx rfl)).trans hc
theorem RdrG.below (h : RdrG w p g bs) (hb : Below w.heap.size w w') : RdrG w' p g bs := h.fr (q := fun _ => False) (Fr.of_below hb) id (fun _ h => h.elim)
/-- What a cut leaves. -/
theorem RdrG.cut {A : Option Addr} (n : Nat) (hn : n ≤ bs.length) (hpg : p.block ≠ g) (hc : w.cell? p = some (.slice A bs.length bs.length)) (hz : w.frozen? p = false)
    (hr : 0 < bs.length → ∃ o, A = some ⟨g, o, none⟩ ∧ ∀ i u, bs[i]? = some u → w.cell? ⟨g, o + i, none⟩ = some (B8 u)) :
    RdrG (w.setCell p (.slice (cutA A bs.length n) (bs.length - n) (bs.length - n))) p g (bs.drop n) := by
  refine ⟨cutA A bs.length n, ?_, ?_, fun h0 => ?_⟩
  · rw [World.cell?_setCell_same _ _ _ hc, List.length_drop]
  · rw [frozen_setCell]; exact hz
  · rw [List.length_drop] at h0
    obtain ⟨o, rfl, hi⟩ := hr (by omega)
    refine ⟨o + n, ?_, fun i u hu => ?_⟩
    · simp only [cutA]; rw [if_neg (by omega)]; simp [Addr.add_lit]
    · rw [List.getElem?_drop] at hu
      rw [Nat.add_assoc, World.cell?_setCell_other _ _ _ _ (fun e => hpg (by rw [e]))]
      exact hi (n + i) u hu
end

theorem RdrG.unalloc {w : World} {o : Obj} {p : Addr} {g : Nat} {bs : List UInt8} (h : RdrG (w.alloc o) p g bs) (hp : p.block < w.heap.size) (hg : g < w.heap.size) : RdrG w p g bs := by
  obtain ⟨A, h1, h2, h3⟩ := h
  have hb : Below w.heap.size w (w.alloc o) := (Below.refl _ _).alloc (Nat.le_refl _) _
  refine ⟨A, (hb.cell hp).symm.trans h1, (hb.frozen hp).symm.trans h2, fun h0 => ?_⟩
  obtain ⟨x, e, hi⟩ := h3 h0
  exact ⟨x, e, fun i u hu => (hb.cell (p := ⟨g, x + i, none⟩) hg).symm.trans (hi i u hu)⟩
theorem RdrG.row_lt {w : World} {p : Addr} {g : Nat} {bs : List UInt8} (h : RdrG w p g bs) (h0 : 0 < bs.length) : g < w.heap.size := by
  obtain ⟨A, _, _, h3⟩ := h
  obtain ⟨x, e, hi⟩ := h3 h0
  cases bs with
  | nil => simp at h0
  | cons u _ => exact World.block_lt_of_cell? w _ (hi 0 u rfl)
theorem setCell_alloc_old (w : World) (o : Obj) (p : Addr) (v : Value) (h : p.block < w.heap.size) : (w.alloc o).setCell p v = (w.setCell p v).alloc o := by
  unfold World.setCell World.alloc
  congr 1
  apply Array.ext_getElem?
  intro i
  simp only [Array.getElem?_modify, Array.getElem?_push, Array.size_modify]
  by_cases h1 : i = w.heap.size
  · subst h1
    rw [if_neg (by omega)]
    simp
  · simp [h1]

end Go.Proofs.YtjnhfabgdegngaaDoor
