/-
  What is proved: options in memory: a slice that holds them; rows of one's own.
  Conditions: none of its own.
-/
import Derived.Test.YtnjohgfhagoppaaDoorGvL
import Derived.Test.YtnjohgfhagoppaaDoorSRow
namespace Go.Proofs.YtnjohgfhagoppaaDoor
open Go.RowKit

/-- An option's cells. -/
structure OpAt (w : World) (g o : Nat) (x : Op) (v : Value) : Prop where
  c0 : w.cell? ⟨g, o, none⟩ = some (.int .u16 x.c)
  c1 : w.cell? ⟨g, o + 1, none⟩ = some (.int .u8 x.t)
  c2 : w.cell? ⟨g, o + 2, none⟩ = some v
/-- The options that a slice's block holds. -/
def OpsAt (w : World) (A : Option Addr) (l : List Op) : Prop :=
  ∀ k x, l[k]? = some x → ∃ g o B c, A = some ⟨g, o, none⟩ ∧ OpAt w g (o + k * 3) x (.slice B x.b.length c) ∧ c ≤ 9223372036854775807 ∧ Rd w (.slice B x.b.length c) x.b
section
variable {w w' : World} {A : Option Addr} {l : List Op}
theorem OpAt.below {g o : Nat} {x : Op} {v : Value} (h : OpAt w g o x v) (hb : Below w.heap.size w w') : OpAt w' g o x v := by
  have hc : ∀ {i : Nat} {v : Value}, w.cell? ⟨g, i, none⟩ = some v → w'.cell? ⟨g, i, none⟩ = some v := fun hi => (hb.cell (World.block_lt_of_cell? w _ hi)).trans hi
  exact ⟨hc h.c0, hc h.c1, hc h.c2⟩
theorem OpsAt.below (h : OpsAt w A l) (hb : Below w.heap.size w w') : OpsAt w' A l := fun k x hk => by
  obtain ⟨g, o, B, c, e, h1, hc, h2⟩ := h k x hk
  exact ⟨g, o, B, c, e, h1.below hb, hc, h2.below hb⟩
theorem OpsAt.nil (w : World) : OpsAt w none [] := fun k x hk => by simp at hk
theorem OpsAt.take (h : OpsAt w A l) (n : Nat) : OpsAt w A (l.take n) := fun k x hk => by
  rw [List.getElem?_take] at hk
  split at hk
  · exact h k x hk
  · cases hk
end
end Go.Proofs.YtnjohgfhagoppaaDoor
