/-
  What is proved: EtherBack: for any bytes and frame, the law returns true and leaves its arguments as they were (the tied card).
  Conditions: the listed package-level variables start as the program's text lays them (the card ties them).
-/
import Derived.Test.YthgfjnibgijfjaaDoorLawEBack
import Derived.Test.YthgfjnibgijfjaaDoorCdEtherBack
namespace Go.Proofs.YthgfjnibgijfjaaDoor
theorem etherBack_holds : Rows.EtherBackCardSaid := etherBack_card (etherBack_row back_any)
end Go.Proofs.YthgfjnibgijfjaaDoor
