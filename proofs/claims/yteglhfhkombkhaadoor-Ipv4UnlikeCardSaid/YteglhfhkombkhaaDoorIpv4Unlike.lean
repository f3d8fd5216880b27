/-
  What is proved: Ipv4Unlike: for any two packets, the law returns true and leaves its arguments as they were (the tied card).
  Conditions: the listed package-level variables start as the program's text lays them (the card ties them).
-/
import Derived.Test.YteglhfhkombkhaaDoorLawVUnlike
import Derived.Test.YteglhfhkombkhaaDoorCdIpv4Unlike
namespace Go.Proofs.YteglhfhkombkhaaDoor
theorem ipv4Unlike_holds : Rows.Ipv4UnlikeCardSaid := ipv4Unlike_card (ipv4Unlike_row ipv4Unlike_any)
end Go.Proofs.YteglhfhkombkhaaDoor
