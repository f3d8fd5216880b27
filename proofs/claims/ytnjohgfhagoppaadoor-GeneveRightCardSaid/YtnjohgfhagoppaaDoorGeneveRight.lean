/-
  What is proved: GeneveRight: for any options the law returns true, and leaves its arguments as they were.
  Conditions: the listed package-level variables start as the program's text lays them (the card ties them).
-/
import Derived.Test.YtnjohgfhagoppaaDoorLawGvRight
import Derived.Test.YtnjohgfhagoppaaDoorCdGeneveRight
namespace Go.Proofs.YtnjohgfhagoppaaDoor
theorem geneveRight_holds : Rows.GeneveRightCardSaid := geneveRight_card (geneveRight_row gvRight_any)
end Go.Proofs.YtnjohgfhagoppaaDoor
