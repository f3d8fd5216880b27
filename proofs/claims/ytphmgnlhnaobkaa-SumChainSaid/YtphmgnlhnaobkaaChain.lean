/-
  What is proved: SumChain: for any bytes, places and numbers the law returns true, and leaves its arguments as they were.
  Conditions: none.
-/
import Derived.Test.YtphmgnlhnaobkaaLawChain
import Derived.Test.YtphmgnlhnaobkaaRowChain
namespace Go.Proofs.Ytphmgnlhnaobkaa
theorem sumChain_holds : Rows.SumChainSaid := sumChain_row chain_any
end Go.Proofs.Ytphmgnlhnaobkaa
