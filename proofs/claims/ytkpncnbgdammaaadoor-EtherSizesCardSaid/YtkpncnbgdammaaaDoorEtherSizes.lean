/-
  What is proved: EtherSizes: for any frame and number, the law returns true and leaves its arguments as they were (the tied card).
  Conditions: the listed package-level variables start as the program's text lays them (the card ties them).
-/
import Derived.Test.YtkpncnbgdammaaaDoorLawESizes
import Derived.Test.YtkpncnbgdammaaaDoorCdEtherSizes
namespace Go.Proofs.YtkpncnbgdammaaaDoor
theorem etherSizes_holds : Rows.EtherSizesCardSaid := etherSizes_card (etherSizes_row (fun f A c n w hg ha hin hr hc h1 h2 => sizes_any f A c n w hg ha hin hr hc h1 h2))
end Go.Proofs.YtkpncnbgdammaaaDoor
