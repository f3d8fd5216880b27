/-
  What is proved: GreOrder: for any numbers the law returns true, and leaves its arguments as they were.
  Conditions: none.
-/
import Derived.Test.YtjnhfabgdegngaaLawGrOrder
import Derived.Test.YtjnhfabgdegngaaRowGreOrder
namespace Go.Proofs.Ytjnhfabgdegngaa
theorem greOrder_holds : Rows.GreOrderSaid := greOrder_row (grOrder_any)
end Go.Proofs.Ytjnhfabgdegngaa
