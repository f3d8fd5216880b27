/-
  What is proved: ArpTurned: for any input, the law returns true and leaves its arguments as they were (the tied card).
  Conditions: the listed package-level variables start as the program's text lays them (the card ties them).
-/
import Derived.Test.YtjfghobhneogjaaDoorLawATurned
import Derived.Test.YtjfghobhneogjaaDoorCdArpTurned
namespace Go.Proofs.YtjfghobhneogjaaDoor
theorem arpTurned_holds : Rows.ArpTurnedCardSaid := arpTurned_card (arpTurned_row turned_any)
end Go.Proofs.YtjfghobhneogjaaDoor
