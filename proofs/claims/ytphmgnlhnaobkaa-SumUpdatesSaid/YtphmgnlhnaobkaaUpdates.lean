/-
  What is proved: SumUpdates: for any bytes and numbers the law returns true, and leaves its arguments as they were.
  Conditions: none.
-/
import Derived.Test.YtphmgnlhnaobkaaLawUpdates
import Derived.Test.YtphmgnlhnaobkaaRowUpdates
namespace Go.Proofs.Ytphmgnlhnaobkaa
theorem sumUpdates_holds : Rows.SumUpdatesSaid := sumUpdates_row updates_any
end Go.Proofs.Ytphmgnlhnaobkaa
