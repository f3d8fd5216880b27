/-
  What is proved: UdpUnlike: for any two datagrams, of the same addresses, the law returns true and leaves its arguments as they were (the tied card).
  Conditions: the listed package-level variables start as the program's text lays them (the card ties them).
-/
import Derived.Test.YtikcnlcpbifobaaDoorLawUUnlike
import Derived.Test.YtikcnlcpbifobaaDoorCdUdpUnlike
namespace Go.Proofs.YtikcnlcpbifobaaDoor
theorem udpUnlike_holds : Rows.UdpUnlikeCardSaid := udpUnlike_card (udpUnlike_row udpUnlike_any)
end Go.Proofs.YtikcnlcpbifobaaDoor
