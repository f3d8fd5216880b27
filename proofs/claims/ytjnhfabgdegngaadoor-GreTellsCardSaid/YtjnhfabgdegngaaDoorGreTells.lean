/-
  What is proved: GreTells: for any header and bytes the law returns true, and leaves its arguments as they were.
  Conditions: the listed package-level variables start as the program's text lays them (the card ties them).
-/
import Derived.Test.YtjnhfabgdegngaaDoorLawGrTells
import Derived.Test.YtjnhfabgdegngaaDoorCdGreTells
namespace Go.Proofs.YtjnhfabgdegngaaDoor
theorem greTells_holds : Rows.GreTellsCardSaid := greTells_card (greTells_row fun h A c l w hg hf hr hc => grTells_any h hf A c l w hg hr hc)
end Go.Proofs.YtjnhfabgdegngaaDoor
