/-
  What is proved: UdpSizes: any ports, with a sum or without, are read, turned and told as the document says, the law returns true and leaves its arguments as they were (the tied card).
  Conditions: the listed package-level variables start as the program's text lays them (the card ties them).
-/
import Derived.Test.YtikcnlcpbifobaaDoorLawUSizes
import Derived.Test.YtikcnlcpbifobaaDoorCdUdpSizes
namespace Go.Proofs.YtikcnlcpbifobaaDoor
theorem udpSizes_holds : Rows.UdpSizesCardSaid := udpSizes_card (udpSizes_row udpSizes_any)
end Go.Proofs.YtikcnlcpbifobaaDoor
