/-
  What is proved: RouteLongest: for any steps and any address, the law returns true, and leaves its arguments as they were.
  Conditions: none.
-/
import Derived.Test.YtimpellpfnmicaaLawRtLongest
import Derived.Test.YtimpellpfnmicaaRowRouteLongest
namespace Go.Proofs.Ytimpellpfnmicaa
theorem routeLongest_holds : Rows.RouteLongestSaid := routeLongest_row (fun A M c x w h1 h2 h3 hx => routeLongest_con A M c x w h1 h2 h3 hx)
end Go.Proofs.Ytimpellpfnmicaa
