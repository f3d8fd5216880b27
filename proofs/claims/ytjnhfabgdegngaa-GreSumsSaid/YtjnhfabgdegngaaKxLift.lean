/-
  What is proved: numbers among a law's arguments.
  Conditions: none of its own.
-/
import Derived.Test.YtjnhfabgdegngaaOpen
namespace Go.Proofs.Ytjnhfabgdegngaa
open Go.ChangeShapes Go.WideShapes Go.RowKit

theorem u32_wf {n : Int} (h : (Lit.int .u32 n).wf = true) : ∃ a : Nat, n = (a : Int) ∧ a < 4294967296 := by
  have hmin : IntKind.u32.min = 0 := by rfl
  have hmax : IntKind.u32.max = 4294967295 := by rfl
  simp [Lit.wf, hmin, hmax] at h
  exact ⟨n.toNat, by omega, by omega⟩
theorem u8n_wf {n : Int} (h : (Lit.int .u8 n).wf = true) : ∃ a : Nat, n = (a : Int) ∧ a < 256 := by
  have hmin : IntKind.u8.min = 0 := by rfl
  have hmax : IntKind.u8.max = 255 := by rfl
  simp [Lit.wf, hmin, hmax] at h
  exact ⟨n.toNat, by omega, by omega⟩
/-- The cells of a row of numbers. -/
def litCells : DataW Unit → Array Value
  | .agg xs => (xs.map fun | .lit (.int k n) => Value.int k n | _ => Value.nilIface).toArray
  | _ => #[]
end Go.Proofs.Ytjnhfabgdegngaa
