/-
  What is proved: GeneveBack: for any id, options and frame the law returns true, and leaves its arguments as they were.
  Conditions: none.
-/
import Derived.Test.YtnjohgfhagoppaaLawGvBack
import Derived.Test.YtnjohgfhagoppaaRowGeneveBack
namespace Go.Proofs.Ytnjohgfhagoppaa
theorem geneveBack_holds : Rows.GeneveBackSaid := geneveBack_row gvBack_any
end Go.Proofs.Ytnjohgfhagoppaa
