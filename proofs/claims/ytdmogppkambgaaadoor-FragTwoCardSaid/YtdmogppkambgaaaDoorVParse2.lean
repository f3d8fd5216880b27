/-
  What is proved: ipv4's parse by contract where head and sum are right: flags that no packet has, a packet that is not right, a packet; Parse.
  Conditions: the bytes are fewer than 2^40.
-/
import Derived.Test.YtdmogppkambgaaaDoorVParse
namespace Go.Proofs.YtdmogppkambgaaaDoor
open Go.RowKit

theorem cells10 {W : World} {G : Nat} {t : TypeId} {fr : Nat × Nat} {v0 v1 v2 v3 v4 v5 v6 v7 v8 v9 : Value} (h : W.heap[G]? = some (.cells #[v0, v1, v2, v3, v4, v5, v6, v7, v8, v9] t fr)) :
    W.cell? ⟨G, 0, none⟩ = some v0 ∧ W.cell? ⟨G, 1, none⟩ = some v1 ∧ W.cell? ⟨G, 2, none⟩ = some v2 ∧ W.cell? ⟨G, 3, none⟩ = some v3 ∧ W.cell? ⟨G, 4, none⟩ = some v4 ∧ W.cell? ⟨G, 5, none⟩ = some v5 ∧ W.cell? ⟨G, 6, none⟩ = some v6 ∧ W.cell? ⟨G, 7, none⟩ = some v7 ∧ W.cell? ⟨G, 8, none⟩ = some v8 ∧ W.cell? ⟨G, 9, none⟩ = some v9 := by
  refine ⟨?_, ?_, ?_, ?_, ?_, ?_, ?_, ?_, ?_, ?_⟩ <;> (rw [cell_of_row W G _ _ _ _ h]; rfl)
theorem cells14 {W : World} {G : Nat} {t : TypeId} {fr : Nat × Nat} {u0 u1 u2 u3 v0 v1 v2 v3 v4 v5 v6 v7 v8 v9 : Value} (h : W.heap[G]? = some (.cells #[u0, u1, u2, u3, v0, v1, v2, v3, v4, v5, v6, v7, v8, v9] t fr)) :
    W.cell? ⟨G, 2, none⟩ = some u2 ∧ W.cell? ⟨G, 3, none⟩ = some u3 ∧ W.cell? ⟨G, 4, none⟩ = some v0 ∧ W.cell? ⟨G, 5, none⟩ = some v1 ∧ W.cell? ⟨G, 6, none⟩ = some v2 ∧ W.cell? ⟨G, 7, none⟩ = some v3 ∧ W.cell? ⟨G, 8, none⟩ = some v4 ∧ W.cell? ⟨G, 9, none⟩ = some v5 ∧ W.cell? ⟨G, 10, none⟩ = some v6 ∧ W.cell? ⟨G, 11, none⟩ = some v7 ∧ W.cell? ⟨G, 12, none⟩ = some v8 ∧ W.cell? ⟨G, 13, none⟩ = some v9 := by
  refine ⟨?_, ?_, ?_, ?_, ?_, ?_, ?_, ?_, ?_, ?_, ?_, ?_⟩ <;> (rw [cell_of_row W G _ _ _ _ h]; rfl)
theorem set9_10 {W : World} {G : Nat} {t : TypeId} {v0 v1 v2 v3 v4 v5 v6 v7 v8 v9 : Value} (h : W.heap[G]? = some (.cells #[v0, v1, v2, v3, v4, v5, v6, v7, v8, v9] t)) (v : Value) :
    (W.setCell ⟨G, 9, none⟩ v).heap[G]? = some (.cells #[v0, v1, v2, v3, v4, v5, v6, v7, v8, v] t) := by
  rw [heap_set, h]
  rfl
theorem fr_block {q : Nat} {W W' : World} {G : Nat} {o : Obj} (hf : Fr (· = ⟨q, 0, none⟩) W W') (h : W.heap[G]? = some o) (hq : G ≠ q) : W'.heap[G]? = some o :=
  (hf.block G (Array.getElem?_eq_some_iff.1 h).1 (fun a ha => by subst ha; exact fun e => hq e.symm)).trans h
theorem be_block {W W' : World} {G : Nat} {o : Obj} (hb : Below W.heap.size W W') (h : W.heap[G]? = some o) : W'.heap[G]? = some o := (hb.block G (Array.getElem?_eq_some_iff.1 h).1).trans h
theorem set_block {W : World} {G g i : Nat} {o : Obj} (h : W.heap[G]? = some o) (hne : G ≠ g) (v : Value) : (W.setCell ⟨g, i, none⟩ v).heap[G]? = some o := (Below.heap_setCell _ _ _ _ hne).trans h
theorem free_lit {W : World} {G i : Nat} {cs : Array Value} {t : TypeId} (h : W.heap[G]? = some (.cells cs t)) : W.frozen? ⟨G, i, none⟩ = false := by
  simp [World.frozen?, h]
theorem wrong_zero {h : Hd} {n : Nat} (hw : h.wrong n = 0) : h.first / 16 = 4 ∧ h.first % 16 = 5 ∧ 20 ≤ h.size ∧ h.size ≤ n := by
  unfold Hd.wrong at hw
  split at hw
  · cases hw
  · split at hw
    · cases hw
    · split at hw
      · cases hw
      · split at hw
        · cases hw
        · split at hw
          · cases hw
          · omega
theorem and_top {n : Nat} (hn : n < 65536) : bits .and .u16 (n : Int) 32768 = ((n / 32768 % 2 * 32768 : Nat) : Int) := and_bit n 15 hn (by decide)

end Go.Proofs.YtdmogppkambgaaaDoor
