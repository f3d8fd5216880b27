/-
  What is proved: RouteGoes: for any steps, any number and any address, the law returns true, and leaves its arguments as they were.
  Conditions: none.
-/
import Derived.Test.YtimpellpfnmicaaLawRtGoes
import Derived.Test.YtimpellpfnmicaaRowRouteGoes
namespace Go.Proofs.Ytimpellpfnmicaa
theorem routeGoes_holds : Rows.RouteGoesSaid := routeGoes_row (fun A M c n x w h1 h2 h3 _ hx => routeGoes_con A M c n x w h1 h2 h3 hx)
end Go.Proofs.Ytimpellpfnmicaa
