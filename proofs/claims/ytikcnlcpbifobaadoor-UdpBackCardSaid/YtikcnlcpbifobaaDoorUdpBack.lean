/-
  What is proved: UdpBack: for any datagram, addresses, bytes behind and any cut, the law returns true and leaves its arguments as they were (the tied card).
  Conditions: the listed package-level variables start as the program's text lays them (the card ties them).
-/
import Derived.Test.YtikcnlcpbifobaaDoorLawUBack
import Derived.Test.YtikcnlcpbifobaaDoorCdUdpBack
namespace Go.Proofs.YtikcnlcpbifobaaDoor
theorem udpBack_holds : Rows.UdpBackCardSaid := udpBack_card (udpBack_row udpBack_any)
end Go.Proofs.YtikcnlcpbifobaaDoor
