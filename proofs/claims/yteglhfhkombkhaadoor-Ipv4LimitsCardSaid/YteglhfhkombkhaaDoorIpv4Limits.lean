/-
  What is proved: Ipv4Limits: for any place of a part and any number of bytes more or less, the law returns true and leaves its arguments as they were (the tied card).
  Conditions: the listed package-level variables start as the program's text lays them (the card ties them).
-/
import Derived.Test.YteglhfhkombkhaaDoorLawVLimits
import Derived.Test.YteglhfhkombkhaaDoorCdIpv4Limits
namespace Go.Proofs.YteglhfhkombkhaaDoor
theorem ipv4Limits_holds : Rows.Ipv4LimitsCardSaid := ipv4Limits_card (ipv4Limits_row ipv4Limits_any)
end Go.Proofs.YteglhfhkombkhaaDoor
