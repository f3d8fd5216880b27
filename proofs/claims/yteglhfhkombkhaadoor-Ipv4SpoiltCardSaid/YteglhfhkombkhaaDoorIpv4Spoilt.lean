/-
  What is proved: Ipv4Spoilt: for any packet of which one byte of the head is turned, the law returns true and leaves its arguments as they were (the tied card).
  Conditions: the listed package-level variables start as the program's text lays them (the card ties them).
-/
import Derived.Test.YteglhfhkombkhaaDoorLawVSpoilt
import Derived.Test.YteglhfhkombkhaaDoorCdIpv4Spoilt
namespace Go.Proofs.YteglhfhkombkhaaDoor
theorem ipv4Spoilt_holds : Rows.Ipv4SpoiltCardSaid := ipv4Spoilt_card (ipv4Spoilt_row ipv4Spoilt_any)
end Go.Proofs.YteglhfhkombkhaaDoor
