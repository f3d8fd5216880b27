/-
  What is proved: GreAgain: for any bytes the law returns true, and leaves its arguments as they were.
  Conditions: none.
-/
import Derived.Test.YtjnhfabgdegngaaLawGrAgain
import Derived.Test.YtjnhfabgdegngaaRowGreAgain
namespace Go.Proofs.Ytjnhfabgdegngaa
theorem greAgain_holds : Rows.GreAgainSaid := greAgain_row (grAgain_any)
end Go.Proofs.Ytjnhfabgdegngaa
