/-
  What is proved: UdpTells: for any bytes, any datagram and any addresses, the law returns true and leaves its arguments as they were (the tied card).
  Conditions: the listed package-level variables start as the program's text lays them (the card ties them).
-/
import Derived.Test.YtikcnlcpbifobaaDoorLawUTells
import Derived.Test.YtikcnlcpbifobaaDoorCdUdpTells
namespace Go.Proofs.YtikcnlcpbifobaaDoor
theorem udpTells_holds : Rows.UdpTellsCardSaid := udpTells_card (udpTells_row udpTells_any)
end Go.Proofs.YtikcnlcpbifobaaDoor
