/-
  What is proved: GreBack: for any header and frame the law returns true, and leaves its arguments as they were.
  Conditions: none.
-/
import Derived.Test.YtjnhfabgdegngaaLawGrBack
import Derived.Test.YtjnhfabgdegngaaRowGreBack
namespace Go.Proofs.Ytjnhfabgdegngaa
theorem greBack_holds : Rows.GreBackSaid := greBack_row (fun h A c l w hf hc hr => grBack_any h hf A c l w hc hr)
end Go.Proofs.Ytjnhfabgdegngaa
