/-
  What is proved: GreCuts: for any header and frame, cut anywhere the law returns true, and leaves its arguments as they were.
  Conditions: none.
-/
import Derived.Test.YtjnhfabgdegngaaLawGrCuts
import Derived.Test.YtjnhfabgdegngaaRowGreCuts
namespace Go.Proofs.Ytjnhfabgdegngaa
theorem greCuts_holds : Rows.GreCutsSaid := greCuts_row (fun h A c l a w hf hc hr => grCuts_any h hf A c l a w hc hr)
end Go.Proofs.Ytjnhfabgdegngaa
