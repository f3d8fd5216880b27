/-
  What is proved: EtherTags: for any frame and tag, the law returns true and leaves its arguments as they were (the tied card).
  Conditions: the listed package-level variables start as the program's text lays them (the card ties them).
-/
import Derived.Test.YtkpncnbgdammaaaDoorLawETags
import Derived.Test.YtkpncnbgdammaaaDoorCdEtherTags
namespace Go.Proofs.YtkpncnbgdammaaaDoor
theorem etherTags_holds : Rows.EtherTagsCardSaid := etherTags_card (etherTags_row (fun f A c n w hg ha hin hr hc hn => tags_any f A c n w hg ha hin hr hc hn))
end Go.Proofs.YtkpncnbgdammaaaDoor
