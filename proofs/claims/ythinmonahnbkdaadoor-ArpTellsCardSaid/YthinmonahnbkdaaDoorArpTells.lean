/-
  What is proved: ArpTells: for any bytes and any packet, the law returns true and leaves its arguments as they were (the tied card).
  Conditions: the listed package-level variables start as the program's text lays them (the card ties them).
-/
import Derived.Test.YthinmonahnbkdaaDoorLawATells
import Derived.Test.YthinmonahnbkdaaDoorCdArpTells
namespace Go.Proofs.YthinmonahnbkdaaDoor
theorem arpTells_holds : Rows.ArpTellsCardSaid := arpTells_card (arpTells_row arpTells_any)
end Go.Proofs.YthinmonahnbkdaaDoor
