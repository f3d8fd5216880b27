/-
  What is proved: SumTells: for any parts and numbers the law returns true, and leaves its arguments as they were.
  Conditions: none.
-/
import Derived.Test.YtphmgnlhnaobkaaLawTells
import Derived.Test.YtphmgnlhnaobkaaRowTells
namespace Go.Proofs.Ytphmgnlhnaobkaa
theorem sumTells_holds : Rows.SumTellsSaid := sumTells_row tells_any
end Go.Proofs.Ytphmgnlhnaobkaa
