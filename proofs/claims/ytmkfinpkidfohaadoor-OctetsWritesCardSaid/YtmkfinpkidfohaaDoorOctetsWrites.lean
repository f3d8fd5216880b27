/-
  What is proved: OctetsWrites: for any puts the law returns true, and leaves its arguments as they were (the tied card).
  Conditions: the variable errors.errorType starts as the program's text lays it (the card ties it).
-/
import Derived.Test.YtmkfinpkidfohaaDoorLawWrites
import Derived.Test.YtmkfinpkidfohaaDoorCdWrites
namespace Go.Proofs.YtmkfinpkidfohaaDoor
theorem octetsWrites_holds : Rows.OctetsWritesCardSaid := octetsWrites_card (octetsWrites_row writes_any)
end Go.Proofs.YtmkfinpkidfohaaDoor
