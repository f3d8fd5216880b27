/-
  What is proved: VxlanCuts: for any id and frame, cut anywhere the law returns true, and leaves its arguments as they were.
  Conditions: none.
-/
import Derived.Test.YtnjohgfhagoppaaLawKxCuts
import Derived.Test.YtnjohgfhagoppaaRowVxlanCuts
namespace Go.Proofs.Ytnjohgfhagoppaa
theorem vxlanCuts_holds : Rows.VxlanCutsSaid := vxlanCuts_row kxCuts_any
end Go.Proofs.Ytnjohgfhagoppaa
