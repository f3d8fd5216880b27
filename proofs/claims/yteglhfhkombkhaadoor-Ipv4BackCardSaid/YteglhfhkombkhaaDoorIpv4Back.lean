/-
  What is proved: Ipv4Back: for any packet, any bytes behind it, and any bytes, the law returns true and leaves its arguments as they were (the tied card).
  Conditions: the listed package-level variables start as the program's text lays them (the card ties them).
-/
import Derived.Test.YteglhfhkombkhaaDoorLawVBack
import Derived.Test.YteglhfhkombkhaaDoorCdIpv4Back
namespace Go.Proofs.YteglhfhkombkhaaDoor
theorem ipv4Back_holds : Rows.Ipv4BackCardSaid := ipv4Back_card (ipv4Back_row ipv4Back_any)
end Go.Proofs.YteglhfhkombkhaaDoor
