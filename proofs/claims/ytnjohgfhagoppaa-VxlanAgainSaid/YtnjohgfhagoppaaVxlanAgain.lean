/-
  What is proved: VxlanAgain: for any bytes, and others in the place of those that mean nothing the law returns true, and leaves its arguments as they were.
  Conditions: none.
-/
import Derived.Test.YtnjohgfhagoppaaLawKxAgain
import Derived.Test.YtnjohgfhagoppaaRowVxlanAgain
namespace Go.Proofs.Ytnjohgfhagoppaa
theorem vxlanAgain_holds : Rows.VxlanAgainSaid := vxlanAgain_row kxAgain_any
end Go.Proofs.Ytnjohgfhagoppaa
