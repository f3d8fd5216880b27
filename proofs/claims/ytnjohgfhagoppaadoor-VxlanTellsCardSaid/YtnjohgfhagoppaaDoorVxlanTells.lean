/-
  What is proved: VxlanTells: for any id and bytes the law returns true, and leaves its arguments as they were.
  Conditions: the listed package-level variable starts as the program's text lays it (the card ties it).
-/
import Derived.Test.YtnjohgfhagoppaaDoorLawKxTells
import Derived.Test.YtnjohgfhagoppaaDoorCdVxlanTells
namespace Go.Proofs.YtnjohgfhagoppaaDoor
theorem vxlanTells_holds : Rows.VxlanTellsCardSaid := vxlanTells_card (vxlanTells_row kxTells_any)
end Go.Proofs.YtnjohgfhagoppaaDoor
