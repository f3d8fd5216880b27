/-
  What is proved: GeneveCuts: for any id, options and frame, cut anywhere the law returns true, and leaves its arguments as they were.
  Conditions: none.
-/
import Derived.Test.YtnjohgfhagoppaaLawGvCuts
import Derived.Test.YtnjohgfhagoppaaRowGeneveCuts
namespace Go.Proofs.Ytnjohgfhagoppaa
theorem geneveCuts_holds : Rows.GeneveCutsSaid := geneveCuts_row gvCuts_any
end Go.Proofs.Ytnjohgfhagoppaa
