/-
  What is proved: GeneveOwn: for any id, options and frame the law returns true, and leaves its arguments as they were.
  Conditions: none.
-/
import Derived.Test.YtnjohgfhagoppaaLawGvOwn
import Derived.Test.YtnjohgfhagoppaaRowGeneveOwn
namespace Go.Proofs.Ytnjohgfhagoppaa
theorem geneveOwn_holds : Rows.GeneveOwnSaid := geneveOwn_row gvOwn_any
end Go.Proofs.Ytnjohgfhagoppaa
