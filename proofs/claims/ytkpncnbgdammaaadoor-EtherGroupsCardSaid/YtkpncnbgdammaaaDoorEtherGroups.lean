/-
  What is proved: EtherGroups: for any two addresses, the law returns true and leaves its arguments as they were (the tied card).
  Conditions: the listed package-level variables start as the program's text lays them (the card ties them).
-/
import Derived.Test.YtkpncnbgdammaaaDoorLawEGroups
import Derived.Test.YtkpncnbgdammaaaDoorCdEtherGroups
namespace Go.Proofs.YtkpncnbgdammaaaDoor
theorem etherGroups_holds : Rows.EtherGroupsCardSaid := etherGroups_card (etherGroups_row groups_any)
end Go.Proofs.YtkpncnbgdammaaaDoor
