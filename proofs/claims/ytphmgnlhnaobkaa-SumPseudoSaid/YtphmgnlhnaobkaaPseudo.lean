/-
  What is proved: SumPseudo: for any addresses, protocols and number the law returns true, and leaves its arguments as they were.
  Conditions: none.
-/
import Derived.Test.YtphmgnlhnaobkaaLawPseudo
import Derived.Test.YtphmgnlhnaobkaaRowPseudo
namespace Go.Proofs.Ytphmgnlhnaobkaa
theorem sumPseudo_holds : Rows.SumPseudoSaid := sumPseudo_row pseudo_any
end Go.Proofs.Ytphmgnlhnaobkaa
