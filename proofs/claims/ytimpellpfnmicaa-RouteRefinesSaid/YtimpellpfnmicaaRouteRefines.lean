/-
  What is proved: RouteRefines: for any addresses and any two numbers, the law returns true, and leaves its arguments as they were.
  Conditions: none.
-/
import Derived.Test.YtimpellpfnmicaaLawRtRefines
import Derived.Test.YtimpellpfnmicaaRowRouteRefines
namespace Go.Proofs.Ytimpellpfnmicaa
theorem routeRefines_holds : Rows.RouteRefinesSaid := routeRefines_row (fun d n1 n2 x w hd _ _ hx => routeRefines_con d n1 n2 x w hd hx)
end Go.Proofs.Ytimpellpfnmicaa
