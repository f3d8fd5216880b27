/-
  What is proved: VxlanBack: for any id and frame the law returns true, and leaves its arguments as they were.
  Conditions: none.
-/
import Derived.Test.YtdmogppkambgaaaLawKxBack
import Derived.Test.YtdmogppkambgaaaRowVxlanBack
namespace Go.Proofs.Ytdmogppkambgaaa
theorem vxlanBack_holds : Rows.VxlanBackSaid := vxlanBack_row kxBack_any
end Go.Proofs.Ytdmogppkambgaaa
