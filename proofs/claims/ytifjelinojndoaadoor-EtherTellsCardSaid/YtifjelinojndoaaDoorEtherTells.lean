/-
  What is proved: EtherTells: for any bytes and frame, the law returns true and leaves its arguments as they were (the tied card).
  Conditions: the listed package-level variables start as the program's text lays them (the card ties them).
-/
import Derived.Test.YtifjelinojndoaaDoorLawETells
import Derived.Test.YtifjelinojndoaaDoorCdEtherTells
namespace Go.Proofs.YtifjelinojndoaaDoor
theorem etherTells_holds : Rows.EtherTellsCardSaid := etherTells_card (etherTells_row tells_any)
end Go.Proofs.YtifjelinojndoaaDoor
