/-
  What is proved: GeneveTells: for any id, options and bytes the law returns true, and leaves its arguments as they were.
  Conditions: the listed package-level variables start as the program's text lays them (the card ties them).
-/
import Derived.Test.YtnjohgfhagoppaaDoorLawGvTells
import Derived.Test.YtnjohgfhagoppaaDoorCdGeneveTells
namespace Go.Proofs.YtnjohgfhagoppaaDoor
theorem geneveTells_holds : Rows.GeneveTellsCardSaid := geneveTells_card (geneveTells_row gvTells_any)
end Go.Proofs.YtnjohgfhagoppaaDoor
