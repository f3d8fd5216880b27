/-
  What is proved: OctetsReads: for any bytes and steps the law returns true, and leaves its arguments as they were (the tied card).
  Conditions: the variable errors.errorType starts as the program's text lays it (the card ties it).
-/
import Derived.Test.YtgbopegjieonhaaDoorLawReads
import Derived.Test.YtgbopegjieonhaaDoorCdReads
namespace Go.Proofs.YtgbopegjieonhaaDoor
theorem octetsReads_holds : Rows.OctetsReadsCardSaid := reads_card (reads_row fun A c bs A2 M c2 w hg hb hs hc hM hc2 => reads_any A c bs A2 M c2 w hg hb hs hc hM hc2)
end Go.Proofs.YtgbopegjieonhaaDoor
