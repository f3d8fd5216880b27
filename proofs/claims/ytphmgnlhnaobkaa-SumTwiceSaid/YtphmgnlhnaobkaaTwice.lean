/-
  What is proved: SumTwice: for any bytes the law returns true, and leaves its arguments as they were.
  Conditions: none.
-/
import Derived.Test.YtphmgnlhnaobkaaLawTwice
import Derived.Test.YtphmgnlhnaobkaaRowTwice
namespace Go.Proofs.Ytphmgnlhnaobkaa
theorem sumTwice_holds : Rows.SumTwiceSaid := sumTwice_row twice_any
end Go.Proofs.Ytphmgnlhnaobkaa
