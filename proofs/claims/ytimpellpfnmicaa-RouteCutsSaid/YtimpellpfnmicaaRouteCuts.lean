/-
  What is proved: RouteCuts: for any address and any two numbers of bits, the law returns true, and leaves its arguments as they were.
  Conditions: none.
-/
import Derived.Test.YtimpellpfnmicaaLawRtCuts
import Derived.Test.YtimpellpfnmicaaRowRouteCuts
namespace Go.Proofs.Ytimpellpfnmicaa
theorem routeCuts_holds : Rows.RouteCutsSaid := routeCuts_row (fun x a b w hx _ _ => routeCuts_con x a b w hx)
end Go.Proofs.Ytimpellpfnmicaa
