/-
  What is proved: OctetsBack: for any puts, with a byte less or not, the law returns true, and leaves its arguments as they were (the tied card).
  Conditions: the variable errors.errorType starts as the program's text lays it (the card ties it).
-/
import Derived.Test.YtmkfinpkidfohaaDoorLawBack
import Derived.Test.YtmkfinpkidfohaaDoorCdBack
namespace Go.Proofs.YtmkfinpkidfohaaDoor
theorem octetsBack_holds : Rows.OctetsBackCardSaid := octetsBack_card (octetsBack_row back_any)
end Go.Proofs.YtmkfinpkidfohaaDoor
