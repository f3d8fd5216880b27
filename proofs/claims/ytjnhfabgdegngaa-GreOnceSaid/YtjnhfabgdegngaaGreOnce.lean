/-
  What is proved: GreOnce: for any numbers the law returns true, and leaves its arguments as they were.
  Conditions: none.
-/
import Derived.Test.YtjnhfabgdegngaaLawGrOnce
import Derived.Test.YtjnhfabgdegngaaRowGreOnce
namespace Go.Proofs.Ytjnhfabgdegngaa
theorem greOnce_holds : Rows.GreOnceSaid := greOnce_row (grOnce_any)
end Go.Proofs.Ytjnhfabgdegngaa
