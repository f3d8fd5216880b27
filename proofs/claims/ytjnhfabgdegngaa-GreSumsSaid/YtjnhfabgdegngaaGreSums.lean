/-
  What is proved: GreSums: for any header, frame, place and number the law returns true, and leaves its arguments as they were.
  Conditions: none.
-/
import Derived.Test.YtjnhfabgdegngaaLawGrSums
import Derived.Test.YtjnhfabgdegngaaRowGreSums
namespace Go.Proofs.Ytjnhfabgdegngaa
theorem greSums_holds : Rows.GreSumsSaid := greSums_row (fun h A c l a n w hf hc hr hn => grSums_any h hf A c l a n w hc hr hn)
end Go.Proofs.Ytjnhfabgdegngaa
