/-
  What is proved: the law VxlanBack answers true for any id and frame, and leaves all older memory as it was.
  Conditions: the slice is of fewer than 2^63 bytes.
-/
import Derived.Test.YtnjohgfhagoppaaDoorKxShown
namespace Go.Proofs.YtnjohgfhagoppaaDoor
open Go.RowKit

theorem front10 {w : World} {A : Option Addr} {c : Nat} (l0 : List UInt8) (h : Rd w (.slice A l0.length c) l0) : ∃ l : List UInt8, l.length = min l0.length 10000 ∧ Rd w (.slice A l.length c) l := by
  have h1 := h.front (K := min l0.length 10000) (by omega)
  have e : (l0.take (min l0.length 10000)).length = min l0.length 10000 := by rw [List.length_take]; omega
  exact ⟨l0.take (min l0.length 10000), e, by rw [e]; exact h1⟩
end Go.Proofs.YtnjohgfhagoppaaDoor
