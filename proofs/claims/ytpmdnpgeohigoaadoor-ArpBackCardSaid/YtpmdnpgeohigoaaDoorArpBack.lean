/-
  What is proved: ArpBack: for any input, the law returns true and leaves its arguments as they were (the tied card).
  Conditions: the listed package-level variables start as the program's text lays them (the card ties them).
-/
import Derived.Test.YtpmdnpgeohigoaaDoorLawABack
import Derived.Test.YtpmdnpgeohigoaaDoorCdArpBack
namespace Go.Proofs.YtpmdnpgeohigoaaDoor
theorem arpBack_holds : Rows.ArpBackCardSaid := arpBack_card (arpBack_row back_any)
end Go.Proofs.YtpmdnpgeohigoaaDoor
