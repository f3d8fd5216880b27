/-
  What is proved: OctetsApart: for any puts and turns the law returns true, and leaves its arguments as they were (the tied card).
  Conditions: the variable errors.errorType starts as the program's text lays it (the card ties it).
-/
import Derived.Test.YtgbopegjieonhaaDoorLawApart
import Derived.Test.YtgbopegjieonhaaDoorCdApart
namespace Go.Proofs.YtgbopegjieonhaaDoor
theorem octetsApart_holds : Rows.OctetsApartCardSaid := apart_card (apart_row fun A M c A2 M2 c2 w hg hp hs hM hc hM2 hc2 => apart_any A M c A2 M2 c2 w hg hp hs hM hc hM2 hc2)
end Go.Proofs.YtgbopegjieonhaaDoor
