/-
  What is proved: a row of bytes of the law's own: begun, appended to, written to; made even.
  Conditions: fewer than 2^40 bytes.
-/
import Derived.Test.YtjnhfabgdegngaaDoorSOne
import Derived.Deep.Cut
import Derived.Deep.DeepCutAuto
namespace Go.Proofs.YtjnhfabgdegngaaDoor
open Go.RowKit

/-- A row of bytes, younger than 'w', of which all that is older is as it was. -/
structure Mine (w W : World) (g c : Nat) (bs : List UInt8) : Prop where
  row : Row W g c bs
  cap : c ≤ maxLen
  new : w.heap.size ≤ g
  old : Below w.heap.size w W

section
variable {w W W' : World} {g c : Nat} {bs : List UInt8}
theorem Row.lt (h : Row W g c bs) : g < W.heap.size := by obtain ⟨cur, h1, _⟩ := h.ex; exact (Array.getElem?_eq_some_iff.1 h1).1
theorem Row.below (h : Row W g c bs) (hb : Below W.heap.size W W') : Row W' g c bs := by
  have hl := h.lt
  obtain ⟨cur, h1, h2, h3⟩ := h.ex
  exact ⟨⟨cur, by rw [hb.block g hl]; exact h1, h2, h3⟩, h.fits⟩
theorem Mine.rd (h : Mine w W g c bs) : Rd W (.slice (some ⟨g, 0, none⟩) bs.length c) bs := h.row.rd
theorem Mine.below (h : Mine w W g c bs) (hb : Below W.heap.size W W') : Mine w W' g c bs := ⟨h.row.below hb, h.cap, h.new, below_to h.old hb h.old.size⟩
theorem Mine.alloc (h : Mine w W g c bs) (o : Obj) : Mine w (W.alloc o) g c bs := h.below ((Below.refl _ _).alloc (Nat.le_refl _) o)
theorem Mine.first (h : Below w.heap.size w W) : Mine w (W.alloc (.cells #[] 5)) W.heap.size 0 [] :=
  ⟨⟨⟨#[], heap_alloc_new W _, rfl, rfl⟩, Nat.le_refl _⟩, by simp [maxLen], h.size, h.alloc h.size _⟩
/-- append(b, u...). -/
theorem Mine.append (h : Mine w W g c bs) (xs : List UInt8) (u : Value) (hx : Rd W u xs) (hL : bs.length + xs.length ≤ 1099511627776) :
    ∃ g' c' W1, (Builtin.append_ #[25, 25] 25 #[.slice (some ⟨g, 0, none⟩) bs.length c, u]).run Tryd.prog W = .ok (.slice (some ⟨g', 0, none⟩) (bs ++ xs).length c') W1 ∧ Mine w W1 g' c' (bs ++ xs) ∧ (g' = g ∨ g' = W.heap.size) ∧ (∀ k, k < W.heap.size → k ≠ g → W1.heap[k]? = W.heap[k]?) ∧ W.heap.size ≤ W1.heap.size := by
  obtain ⟨cur, h1, h2, h3⟩ := h.row.ex
  have ho : W.ownsRow 0 5 1 (.slice (some ⟨g, 0, none⟩) bs.length c) bs.length (bs.map B8) := ⟨by simp, .inr ⟨g, c, cur, rfl, Nat.zero_le _, h1, h.row.fits, h.cap, by rw [h2, Nat.mul_one], by rw [Nat.mul_one]; exact h3⟩⟩
  obtain ⟨v', w1, hrun, ho1, hg, hat⟩ := append_own ho xs u hx hL
  have hb : Below w.heap.size w w1 := h.old.grown hg h.old.size (fun k hk => by cases hk; exact h.new)
  rcases ho1.2 with ⟨e, _⟩ | ⟨g', c', cur', e, _, k1, k2, k3, k4, k5⟩
  · subst e
    rcases hat with h | h
    · simp [Value.ownBlock] at h
    · simp [Value.ownBlock] at h
  · subst e
    have hgg : g' = g ∨ g' = W.heap.size := by
      rcases hat with h' | h'
      · exact .inl (by simpa [Value.ownBlock] using h')
      · exact .inr (by simpa [Value.ownBlock] using h')
    refine ⟨g', c', w1, hrun, ⟨⟨⟨cur', k1, by rw [k4, Nat.mul_one], by rw [Nat.mul_one] at k5; exact k5⟩, k2⟩, k3, ?_, hb⟩, hgg, fun k hk hne => hg.block k hk (fun e => hne (Option.some.inj e)), hg.size⟩
    rcases hgg with e | e
    · rw [e]; exact h.new
    · rw [e]; exact h.old.size
/-- Another row, over what was written elsewhere. -/
theorem Mine.other (h : Mine w W g c bs) (hk : W'.heap[g]? = W.heap[g]?) (hb : Below w.heap.size w W') : Mine w W' g c bs := by
  obtain ⟨cur, h1, h2, h3⟩ := h.row.ex
  exact ⟨⟨⟨cur, hk.trans h1, h2, h3⟩, h.row.fits⟩, h.cap, h.new, hb⟩
theorem Mine.setOther (h : Mine w W g c bs) {g2 i : Nat} (hne : g ≠ g2) (hn : w.heap.size ≤ g2) (v : Value) : Mine w (W.setCell ⟨g2, i, none⟩ v) g c bs :=
  h.other (Below.heap_setCell _ _ _ _ hne) (h.old.setCell hn _)
theorem Mine.drewN (h : Mine w W g c bs) (n : Nat) : Mine w (W.drewN n) g c bs := h.other rfl ⟨h.old.os, h.old.tape, h.old.output, h.old.size, h.old.block⟩
theorem Mine.cell (h : Mine w W g c bs) (i : Nat) (u : UInt8) (hu : bs[i]? = some u) : W.cell? ⟨g, i, none⟩ = some (.int .u8 (u.toNat : Int)) := by
  obtain ⟨A, c', e, _, hc⟩ := h.rd
  cases e
  obtain ⟨g', o, e, hi⟩ := hc (by have := (List.getElem?_eq_some_iff.1 hu).1; omega)
  cases e
  have := hi i u hu
  rwa [Nat.zero_add] at this
theorem Mine.free (h : Mine w W g c bs) (i : Nat) : W.frozen? ⟨g, i, none⟩ = false := by
  obtain ⟨cur, h1, _⟩ := h.row.ex
  simp [World.frozen?, h1]
/-- b[i] = x. -/
theorem Mine.set (h : Mine w W g c bs) (i : Nat) (x : UInt8) : Mine w (W.setCell ⟨g, i, none⟩ (B8 x)) g c (bs.set i x) := by
  obtain ⟨cur, h1, h2, h3⟩ := h.row.ex
  refine ⟨⟨⟨cur.setIfInBounds i (B8 x), by simp [World.setCell, Array.getElem?_modify, h1], by simpa using h2, ?_⟩, by simpa using h.row.fits⟩, h.cap, h.new, h.old.setCell ?_ _⟩
  · rw [Array.toList_setIfInBounds, List.length_set, List.take_set, h3, List.map_set]
  · exact h.new
end
/-- What is made even by a byte of 0. -/
def even (bs : List UInt8) : List UInt8 := if bs.length % 2 = 1 then bs ++ [0] else bs
theorem even_len (bs : List UInt8) : (even bs).length % 2 = 0 := by unfold even; split <;> (try rw [List.length_append, List.length_singleton]) <;> omega
theorem even_le {bs : List UInt8} {n : Nat} (h : bs.length ≤ n) (hn : n % 2 = 0) : (even bs).length ≤ n := by unfold even; split <;> (try rw [List.length_append, List.length_singleton]) <;> omega
/-- The first bytes of an argument. -/
theorem Rd.front {w : World} {A : Option Addr} {c K : Nat} {bs : List UInt8} (h : Rd w (.slice A bs.length c) bs) (hK : K ≤ bs.length) : Rd w (.slice A K c) (bs.take K) := by
  have hlen : (bs.take K).length = K := by rw [List.length_take]; omega
  obtain ⟨A', c', e, h, hcell⟩ := h
  cases e
  refine ⟨A, c, by rw [hlen], by omega, fun h0 => ?_⟩
  obtain ⟨g, o, e, hi⟩ := hcell (by omega)
  refine ⟨g, o, e, fun i u hu => hi i u ?_⟩
  rw [List.getElem?_take] at hu
  split at hu
  · exact hu
  · cases hu
theorem Rd.old {w W : World} {v : Value} {bs : List UInt8} (h : Rd w v bs) (hb : Below w.heap.size w W) : Rd W v bs := h.below hb
theorem Rd.cap_le {w : World} {A : Option Addr} {n c : Nat} {bs : List UInt8} (h : Rd w (.slice A n c) bs) : bs.length ≤ c := by obtain ⟨A', c', e, h, _⟩ := h; cases e; exact h
end Go.Proofs.YtjnhfabgdegngaaDoor
