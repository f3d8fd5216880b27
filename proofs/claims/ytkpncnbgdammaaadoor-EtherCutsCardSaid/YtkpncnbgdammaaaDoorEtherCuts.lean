/-
  What is proved: EtherCuts: for any frame and place, the law returns true and leaves its arguments as they were (the tied card).
  Conditions: the listed package-level variables start as the program's text lays them (the card ties them).
-/
import Derived.Test.YtkpncnbgdammaaaDoorLawECuts
import Derived.Test.YtkpncnbgdammaaaDoorCdEtherCuts
namespace Go.Proofs.YtkpncnbgdammaaaDoor
theorem etherCuts_holds : Rows.EtherCutsCardSaid := etherCuts_card (etherCuts_row cuts_any)
end Go.Proofs.YtkpncnbgdammaaaDoor
