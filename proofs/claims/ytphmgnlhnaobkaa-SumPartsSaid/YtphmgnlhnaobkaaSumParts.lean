/-
  What is proved: SumParts: for any parts the law returns true, and leaves its arguments as they were.
  Conditions: none.
-/
import Derived.Test.YtphmgnlhnaobkaaLawSParts
import Derived.Test.YtphmgnlhnaobkaaRowSParts
namespace Go.Proofs.Ytphmgnlhnaobkaa
theorem sumParts_holds : Rows.SumPartsSaid := sumParts_row sparts_any
end Go.Proofs.Ytphmgnlhnaobkaa
