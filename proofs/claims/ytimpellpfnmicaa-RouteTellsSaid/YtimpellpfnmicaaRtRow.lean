/-
  What is proved: a row of routes of one's own: what it holds; rows of unlike keys that are put into a table.
  Conditions: none.
-/
import Derived.Test.YtimpellpfnmicaaRtGone
namespace Go.Proofs.Ytimpellpfnmicaa
open Go.RowKit Go.Maps Go.Sort Go.Shelf

theorem rtsIn_of_owns {w : World} {base : Nat} {v : Value} {L : List Rt} (h : w.ownsRow base 33 4 v L.length (L.flatMap encRt')) :
    ∃ A c, v = .slice A L.length c ∧ L.length ≤ c ∧ c ≤ 9223372036854775807 ∧ RtsIn w A L := by
  rcases h.2 with ⟨h1, h2⟩ | ⟨g, cap, cur, hv, _⟩
  · have hL : L = [] := List.length_eq_zero_iff.1 h2
    subst hL
    exact ⟨none, 0, h1, Nat.le_refl _, by omega, fun k r hk => by simp at hk⟩
  · subst hv
    obtain ⟨hH, _, _, h1, h2⟩ := holds_of_owns h
    refine ⟨_, _, rfl, h1, by unfold maxLen at h2; omega, fun k r hk => ⟨g, 0, rfl, ?_⟩⟩
    obtain ⟨hk1, hk2⟩ := List.getElem?_eq_some_iff.1 hk
    have hk3 : k < L.toArray.size := by simpa using hk1
    have hr : L.toArray[k]! = r := by rw [getElem!_pos L.toArray k hk3, ← hk2]; simp
    have c0 := (hH.cell hk3 (show 0 < 4 by omega)).1
    have c1 := (hH.cell hk3 (show 1 < 4 by omega)).1
    have c2 := (hH.cell hk3 (show 2 < 4 by omega)).1
    have c3 := (hH.cell hk3 (show 3 < 4 by omega)).1
    rw [hr] at c0 c1 c2 c3
    exact ⟨c0, c1, c2, c3⟩

/-- Right routes of unlike keys. -/
structure Apart (O : List Rt) : Prop where
  right : ∀ r ∈ O, r.Right
  keys : O.Pairwise (fun r s => ¬ Same r.d r.b s)
theorem Apart.nil : Apart [] := ⟨(fun r hr => absurd hr List.not_mem_nil), List.Pairwise.nil⟩
def skB (x s : Rt) : Bool := s.d == x.d && s.b == x.b
theorem skB_iff {x s : Rt} : skB x s = true ↔ Same x.d x.b s := by simp [skB, Same]
theorem Apart.snoc {O : List Rt} (h : Apart O) {x : Rt} (hx : x.Right) (hn : O.any (skB x) = false) : Apart (O ++ [x]) := by
  refine ⟨fun r hr => ?_, ?_⟩
  · rcases List.mem_append.1 hr with h1 | h1
    · exact h.right r h1
    · obtain rfl : r = x := by simpa using h1
      exact hx
  · refine List.pairwise_append.2 ⟨h.keys, List.pairwise_cons.2 ⟨by simp, List.Pairwise.nil⟩, fun r hr s hs hk => ?_⟩
    obtain rfl : s = x := by simpa using hs
    have h2 := List.any_eq_false.1 hn r hr
    exact h2 (skB_iff.2 ⟨hk.1.symm, hk.2.symm⟩)
theorem Apart.rev {O : List Rt} (h : Apart O) : Apart O.reverse :=
  ⟨fun r hr => h.right r (List.mem_reverse.1 hr), List.pairwise_reverse.2 (h.keys.imp fun {a b} hab hba => hab ⟨hba.1.symm, hba.2.symm⟩)⟩

/-- The table has just the first k of a row. -/
structure Has (L O : List Rt) (k : Nat) : Prop where
  mem : ∀ r, r ∈ L ↔ r ∈ O.take k
  len : L.length = k
theorem Has.zero (O : List Rt) : Has [] O 0 := ⟨fun r => by simp, rfl⟩
theorem Has.step {L O : List Rt} {k : Nat} (h : Has L O k) (hs : Srt L) (hO : Apart O) (h60 : O.length ≤ 60) {x : Rt} (hx : O[k]? = some x) : addCode L x = 0 ∧ addL L x = putL L x ∧ Has (putL L x) O (k + 1) := by
  have hk := (List.getElem?_eq_some_iff.1 hx).1
  have hxm : x ∈ O := List.mem_of_getElem? hx
  have hno : look L x.d x.b = none := look_none.2 fun r hr hk2 => by
    have h1 := (h.mem r).1 hr
    obtain ⟨i, hi, hir⟩ := List.mem_take_iff_getElem.1 h1
    have h3 := List.pairwise_iff_getElem.1 hO.keys i k (by omega) hk (by omega)
    rw [hir, (List.getElem?_eq_some_iff.1 hx).2] at h3
    exact h3 ⟨hk2.1.symm, hk2.2.symm⟩
  have hok := (Rt.ok_iff (hO.right x hxm).i).2 (hO.right x hxm)
  have hf : fullB L x = false := by
    unfold fullB
    rw [hno]
    have := h.len
    simp
    omega
  refine ⟨?_, ?_, ?_, ?_⟩
  · unfold addCode
    rw [hok, hf]
    rfl
  · unfold addL
    rw [hok, hf]
    rfl
  · intro r
    rw [mem_put hs, List.take_add_one, hx, List.mem_append, ← h.mem r]
    constructor
    · rintro (rfl | ⟨h1, _⟩)
      · exact .inr (by simp)
      · exact .inl h1
    · rintro (h1 | h1)
      · exact .inr ⟨h1, look_none.1 hno r h1⟩
      · exact .inl (by simpa using h1)
  · rw [length_put hs, hno]
    show L.length + 1 = k + 1
    rw [h.len]
theorem Has.same {L L' O : List Rt} (h : Has L O O.length) (h' : Has L' O.reverse O.length) (hs : Srt L) (hs' : Srt L') : L = L' :=
  srt_ext hs hs' fun r => by
    rw [h.mem r, h'.mem r, List.take_length]
    have : O.reverse.take O.length = O.reverse := List.take_of_length_le (by simp)
    rw [this, List.mem_reverse]
theorem Tab.rts_grown {w w' : World} {p b : Nat} {L O : List Rt} {A : Option Addr} (h : Tab w p b L) (hg : w.grownBy w' (some b)) (hR : RtsIn w A O) : RtsIn w' A O := fun k r hk => by
  obtain ⟨g, o, h1, c0, c1, c2, c3⟩ := hR k r hk
  exact ⟨g, o, h1, h.cell_grown hg c0, h.cell_grown hg c1, h.cell_grown hg c2, h.cell_grown hg c3⟩
end Go.Proofs.Ytimpellpfnmicaa
