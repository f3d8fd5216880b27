/-
  What is proved: inner.Right by contract: what is wrong with a frame.
  Conditions: none of its own.
-/
import Derived.Test.YtjnhfabgdegngaaDoorIs
namespace Go.Proofs.YtjnhfabgdegngaaDoor
open Go.RowKit

/-- What is wrong with a frame of 'n' bytes: 0 if nothing is. -/
def frameWrong (n : Nat) : Nat := if n < 14 then 2 else if 9000 < n then 7 else 0
theorem xright_ok (A : Option Addr) (n c : Nat) (h1 : 14 ≤ n) (h2 : n ≤ 9000) (w : World) :
    Calls Tryd.prog 14 #[.slice A n c] w fun e w' => e = .returned .nilIface ∧ w = w' := by
  have h3 : ¬ n < 14 := by omega
  have h4 : ¬ 9000 < n := by omega
  go_enter Tryd.func14, Tryd.ntmps14
  go_wp2_with fail
  go_ret
  exact ⟨rfl, rfl⟩
theorem xright_bad (A : Option Addr) (n c : Nat) (h : frameWrong n ≠ 0) (w : World) :
    Calls Tryd.prog 14 #[.slice A n c] w fun e w' => e = .returned (.iface 32 (.int .i64 (frameWrong n : Nat))) ∧ w = w' := by
  unfold frameWrong at h ⊢
  by_cases h1 : n < 14
  · rw [if_pos h1]
    clear h
    go_enter Tryd.func14, Tryd.ntmps14
    go_wp2_with fail
    go_ret
    exact ⟨rfl, rfl⟩
  · rw [if_neg h1] at h ⊢
    by_cases h2 : 9000 < n
    · rw [if_pos h2]
      clear h
      go_enter Tryd.func14, Tryd.ntmps14
      go_wp2_with fail
      go_ret
      exact ⟨rfl, rfl⟩
    · rw [if_neg h2] at h
      exact absurd rfl h
end Go.Proofs.YtjnhfabgdegngaaDoor
