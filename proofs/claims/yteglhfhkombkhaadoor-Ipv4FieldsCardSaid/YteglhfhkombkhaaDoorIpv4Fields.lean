/-
  What is proved: Ipv4Fields: for any packet, the law returns true and leaves its arguments as they were (the tied card).
  Conditions: the listed package-level variables start as the program's text lays them (the card ties them).
-/
import Derived.Test.YteglhfhkombkhaaDoorLawVFields
import Derived.Test.YteglhfhkombkhaaDoorCdIpv4Fields
namespace Go.Proofs.YteglhfhkombkhaaDoor
theorem ipv4Fields_holds : Rows.Ipv4FieldsCardSaid := ipv4Fields_card (ipv4Fields_row ipv4Fields_any)
end Go.Proofs.YteglhfhkombkhaaDoor
