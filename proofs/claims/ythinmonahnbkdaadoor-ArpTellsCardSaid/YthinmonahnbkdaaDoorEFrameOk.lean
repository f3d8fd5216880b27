/-
  What is proved: ether's readFrame, of bytes that are a frame, by contract.
  Conditions: the reader holds fewer than 2^40 bytes.
-/
import Derived.Test.YthinmonahnbkdaaDoorEFrame
import Derived.Deep.RegionLaw
namespace Go.Proofs.YthinmonahnbkdaaDoor
open Go.RowKit

theorem macSize : (Tryd.prog.info? 25).map (·.size) = some 6 := by kernel_rfl
end Go.Proofs.YthinmonahnbkdaaDoor
