/-
  What is proved: RouteOrder: for any routes and any address, the law returns true, and leaves its arguments as they were.
  Conditions: none.
-/
import Derived.Test.YtimpellpfnmicaaLawRtOrder
import Derived.Test.YtimpellpfnmicaaRowRouteOrder
namespace Go.Proofs.Ytimpellpfnmicaa
theorem routeOrder_holds : Rows.RouteOrderSaid := routeOrder_row (fun A M c x w h1 h2 h3 hx => routeOrder_con A M c x w h1 h2 h3 hx)
end Go.Proofs.Ytimpellpfnmicaa
