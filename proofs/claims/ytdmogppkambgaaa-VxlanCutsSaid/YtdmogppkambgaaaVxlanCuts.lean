/-
  What is proved: VxlanCuts: for any id and frame, cut anywhere the law returns true, and leaves its arguments as they were.
  Conditions: none.
-/
import Derived.Test.YtdmogppkambgaaaLawKxCuts
import Derived.Test.YtdmogppkambgaaaRowVxlanCuts
namespace Go.Proofs.Ytdmogppkambgaaa
theorem vxlanCuts_holds : Rows.VxlanCutsSaid := vxlanCuts_row kxCuts_any
end Go.Proofs.Ytdmogppkambgaaa
