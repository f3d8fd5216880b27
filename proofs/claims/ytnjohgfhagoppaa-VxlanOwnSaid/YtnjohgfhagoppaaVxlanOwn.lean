/-
  What is proved: VxlanOwn: for any id and frame the law returns true, and leaves its arguments as they were.
  Conditions: none.
-/
import Derived.Test.YtnjohgfhagoppaaLawKxOwn
import Derived.Test.YtnjohgfhagoppaaRowVxlanOwn
namespace Go.Proofs.Ytnjohgfhagoppaa
theorem vxlanOwn_holds : Rows.VxlanOwnSaid := vxlanOwn_row kxOwn_any
end Go.Proofs.Ytnjohgfhagoppaa
