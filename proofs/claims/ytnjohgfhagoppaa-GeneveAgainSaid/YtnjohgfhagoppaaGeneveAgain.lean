/-
  What is proved: GeneveAgain: for any bytes the law returns true, and leaves its arguments as they were.
  Conditions: none.
-/
import Derived.Test.YtnjohgfhagoppaaLawGvAgain
import Derived.Test.YtnjohgfhagoppaaRowGeneveAgain
namespace Go.Proofs.Ytnjohgfhagoppaa
theorem geneveAgain_holds : Rows.GeneveAgainSaid := geneveAgain_row gvAgain_any
end Go.Proofs.Ytnjohgfhagoppaa
