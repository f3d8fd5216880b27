/-
  What is proved: VxlanBack: for any id and frame the law returns true, and leaves its arguments as they were.
  Conditions: none.
-/
import Derived.Test.YtnjohgfhagoppaaLawKxBack
import Derived.Test.YtnjohgfhagoppaaRowVxlanBack
namespace Go.Proofs.Ytnjohgfhagoppaa
theorem vxlanBack_holds : Rows.VxlanBackSaid := vxlanBack_row kxBack_any
end Go.Proofs.Ytnjohgfhagoppaa
