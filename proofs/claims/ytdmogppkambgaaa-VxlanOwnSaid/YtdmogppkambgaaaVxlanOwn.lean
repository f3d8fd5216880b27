/-
  What is proved: VxlanOwn: for any id and frame the law returns true, and leaves its arguments as they were.
  Conditions: none.
-/
import Derived.Test.YtdmogppkambgaaaLawKxOwn
import Derived.Test.YtdmogppkambgaaaRowVxlanOwn
namespace Go.Proofs.Ytdmogppkambgaaa
theorem vxlanOwn_holds : Rows.VxlanOwnSaid := vxlanOwn_row kxOwn_any
end Go.Proofs.Ytdmogppkambgaaa
