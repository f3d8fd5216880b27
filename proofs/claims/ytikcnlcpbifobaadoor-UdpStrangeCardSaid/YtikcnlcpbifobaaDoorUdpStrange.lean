/-
  What is proved: UdpStrange: for any datagram and any two sources of the same upper half, the law returns true and leaves its arguments as they were (the tied card).
  Conditions: the listed package-level variables start as the program's text lays them (the card ties them).
-/
import Derived.Test.YtikcnlcpbifobaaDoorLawUStrange
import Derived.Test.YtikcnlcpbifobaaDoorCdUdpStrange
namespace Go.Proofs.YtikcnlcpbifobaaDoor
theorem udpStrange_holds : Rows.UdpStrangeCardSaid := udpStrange_card (udpStrange_row udpStrange_any)
end Go.Proofs.YtikcnlcpbifobaaDoor
