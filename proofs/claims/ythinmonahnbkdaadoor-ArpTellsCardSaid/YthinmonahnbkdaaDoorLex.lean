/-
  What is proved: the test on a region's operations that a quiet walk asks for, out of a cheaper one: each operation waits for earlier ones alone, and is apart from all later ones that do not wait for it.
  Conditions: the region's operations, each with what it writes, looks at and waits for, as a list.
-/
import Derived.Test.YthinmonahnbkdaaDoorOneW
import Derived.BigQuiet
import Derived.Deep.QuietTactic
namespace Go.Proofs.YthinmonahnbkdaaDoor
open Go.RowKit

/-- What an operation writes, what it looks at, for what it waits. -/
def lexRec (ops : Array Oper) (o : Oper) : Option Nat × List Nat × List Nat := (o.dst, o.looksAt ops, (o.after.toList.filter (fun e => Region.binds .any e)).map (·.on))
def apartR (x y : Option Nat × List Nat × List Nat) : Bool :=
  (match x.1 with
   | some d => !(y.2.1.contains d) && y.1 != some d
   | none => true) &&
  (match y.1 with
   | some d => !(x.2.1.contains d)
   | none => true)
def lexFast : Nat → List (Option Nat × List Nat × List Nat) → Bool
  | _, [] => true
  | k, r :: l => r.2.2.all (fun d => Nat.blt d k) && l.all (fun q => q.2.2.contains k || apartR r q) && lexFast (k + 1) l
theorem apart_rec (ops : Array Oper) (x y : Oper) : x.apart ops y = apartR (lexRec ops x) (lexRec ops y) := rfl
theorem lex_from {ops : Array Oper} : ∀ (l : List Oper) (k : Nat) (listed : Array Bool), (∀ j, l[j]? = ops[k + j]?) → k + l.length = ops.size → (∀ i d, i < ops.size → listed.getD i d = decide (i < k)) → listed.size = ops.size →
    lexFast k (l.map (lexRec ops)) = true → Region.lexFrom .any ops l.length k listed = true
  | [], k, listed, _, hs, hg, _, _ => by
    simp only [List.length_nil, Region.lexFrom]
    rw [List.isEmpty_iff, List.eq_nil_iff_forall_not_mem]
    intro j hj
    obtain ⟨h1, o, ho, _⟩ := mem_ready.1 hj
    have hlt := (Array.getElem?_eq_some_iff.1 ho).1
    rw [hg j true hlt] at h1
    simp at hs h1
    omega
  | o :: l, k, listed, hl, hs, hg, hz, h => by
    simp only [List.map_cons, lexFast, Bool.and_eq_true] at h
    obtain ⟨⟨h1, h2⟩, h3⟩ := h
    simp only [List.length_cons] at hs
    have h0 : ops[k]? = some o := by simpa using (hl 0).symm
    have hl' : ∀ j, l[j]? = ops[k + 1 + j]? := fun j => by
      have := hl (j + 1)
      rw [List.getElem?_cons_succ] at this
      rw [this]
      congr 1
      omega
    simp only [List.length_cons, Region.lexFrom, Bool.and_eq_true]
    refine ⟨⟨?_, ?_⟩, lex_from l (k + 1) _ hl' (by omega) (fun i d hi => ?_) (by simpa using hz) h3⟩
    · rw [List.contains_iff_mem]
      refine mem_ready.2 ⟨by rw [hg k true (by omega)]; simp, o, h0, fun e he hb => ?_⟩
      have h4 := List.all_eq_true.1 h1 e.on (List.mem_map.2 ⟨e, List.mem_filter.2 ⟨Array.mem_toList_iff.2 he, hb⟩, rfl⟩)
      have h5 : e.on < k := Nat.blt_eq ▸ h4
      rw [hg e.on false (by omega)]
      simpa using h5
    · unfold Region.free
      rw [h0]
      simp only [List.all_eq_true, List.mem_range]
      intro j hj
      rcases Nat.lt_trichotomy j k with hjk | hjk | hjk
      · rw [hg j true hj]
        simp [hjk]
      · simp [hjk]
      · obtain ⟨q, hq⟩ : ∃ q, ops[j]? = some q := ⟨_, Array.getElem?_eq_getElem hj⟩
        have hm : q ∈ l := by
          have := hl' (j - k - 1)
          rw [show k + 1 + (j - k - 1) = j by omega, hq] at this
          exact List.mem_of_getElem? this
        have h4 := List.all_eq_true.1 h2 (lexRec ops q) (List.mem_map.2 ⟨q, hm, rfl⟩)
        rw [hq]
        rw [Bool.or_eq_true] at h4
        rw [Bool.or_eq_true]
        refine .inr ?_
        simp only [Bool.or_eq_true]
        rcases h4 with h4 | h4
        · refine .inl ?_
          rw [List.contains_iff_mem] at h4
          obtain ⟨e, he, hk⟩ := List.mem_map.1 h4
          obtain ⟨he1, he2⟩ := List.mem_filter.1 he
          rw [Array.any_eq_true']
          exact ⟨e, Array.mem_toList_iff.1 he1, by simp [he2, hk]⟩
        · exact .inr (by rw [apart_rec]; exact h4)
    · rw [Array.getD_eq_getD_getElem?]
      by_cases hik : i = k
      · subst hik
        rw [Array.getElem?_setIfInBounds_self_of_lt (by omega)]
        simp
      · rw [Array.getElem?_setIfInBounds_ne (Ne.symm hik)]
        have := hg i d hi
        rw [Array.getD_eq_getD_getElem?] at this
        rw [this]
        have : (i < k) = (i < k + 1) := by apply propext; omega
        simp only [this]
theorem lex_fast (l : List Oper) (L : List (Option Nat × List Nat × List Nat)) (hL : l.map (lexRec l.toArray) = L) (hs : Region.noSelect l.toArray = true) (hf : lexFast 0 L = true) : Region.lexB .any l.toArray = true := by
  unfold Region.lexB
  rw [Bool.and_eq_true]
  refine ⟨hs, ?_⟩
  have h := lex_from (ops := l.toArray) l 0 (Array.replicate l.toArray.size false) (fun j => by simp) (by simp) (fun i d hi => by simp only [Array.getD_eq_getD_getElem?]; rw [Array.getElem?_replicate, if_pos hi]; simp) (by simp) (by rw [hL]; exact hf)
  exact h
/-- May this operation be taken first? Out of the list. -/
def freeFast (L : List (Option Nat × List Nat × List Nat)) (listed : Array Bool) (i : Nat) : Bool :=
  match L[i]? with
  | none => false
  | some x => (List.range L.length).all fun j => j == i || listed.getD j true || match L[j]? with
    | some y => y.2.2.contains i || apartR x y
    | none => true
theorem free_fast {l : List Oper} {L : List (Option Nat × List Nat × List Nat)} (hL : l.map (lexRec l.toArray) = L) {listed : Array Bool} {i : Nat} (h : freeFast L listed i = true) : Region.free .any l.toArray listed i = true := by
  subst hL
  unfold freeFast at h
  unfold Region.free
  rw [List.getElem?_map] at h
  have e : l.toArray[i]? = l[i]? := by simp
  rw [e]
  cases hi : l[i]? with
  | none => rw [hi] at h; cases h
  | some oi =>
    rw [hi] at h
    simp only [Option.map_some, List.length_map, List.all_eq_true, List.mem_range] at h
    simp only [List.all_eq_true, List.mem_range, List.size_toArray]
    intro j hj
    have h1 := h j hj
    have e2 : l.toArray[j]? = l[j]? := by simp
    rw [e2]
    rw [List.getElem?_map] at h1
    cases hq : l[j]? with
    | none => simp
    | some oj =>
      rw [hq] at h1
      simp only [Option.map_some, Bool.or_eq_true] at h1 ⊢
      rcases h1 with h1 | h1 | h1
      · exact .inl h1
      · refine .inr (.inl ?_)
        rw [List.contains_iff_mem] at h1
        obtain ⟨e, he, hk⟩ := List.mem_map.1 h1
        obtain ⟨he1, he2⟩ := List.mem_filter.1 he
        rw [Array.any_eq_true']
        exact ⟨e, Array.mem_toList_iff.1 he1, by simp [he2, hk]⟩
      · exact .inr (.inr (by rw [apart_rec]; exact h1))
end Go.Proofs.YthinmonahnbkdaaDoor
