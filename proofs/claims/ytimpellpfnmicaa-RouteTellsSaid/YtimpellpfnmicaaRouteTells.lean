/-
  What is proved: RouteTells: for any steps, the law returns true, and leaves its arguments as they were.
  Conditions: none.
-/
import Derived.Test.YtimpellpfnmicaaLawRtTells
import Derived.Test.YtimpellpfnmicaaRowRouteTells
namespace Go.Proofs.Ytimpellpfnmicaa
theorem routeTells_holds : Rows.RouteTellsSaid := routeTells_row (fun A M c w h1 h2 h3 => routeTells_con A M c w h1 h2 h3)
end Go.Proofs.Ytimpellpfnmicaa
