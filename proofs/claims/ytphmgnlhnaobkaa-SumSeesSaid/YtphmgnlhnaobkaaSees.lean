/-
  What is proved: SumSees: for any bytes and numbers the law returns true, and leaves its arguments as they were.
  Conditions: none.
-/
import Derived.Test.YtphmgnlhnaobkaaLawSees
import Derived.Test.YtphmgnlhnaobkaaRowSees
namespace Go.Proofs.Ytphmgnlhnaobkaa
theorem sumSees_holds : Rows.SumSeesSaid := sumSees_row sees_any
end Go.Proofs.Ytphmgnlhnaobkaa
