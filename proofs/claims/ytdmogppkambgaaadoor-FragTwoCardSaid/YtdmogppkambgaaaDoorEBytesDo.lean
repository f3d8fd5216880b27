/-
  What is proved: ether.Frame's Bytes of a frame that has bytes, by contract.
  Conditions: the frame's bytes are at most 9000.
-/
import Derived.Test.YtdmogppkambgaaaDoorEBytesOk
namespace Go.Proofs.YtdmogppkambgaaaDoor
open Go.RowKit

theorem u16_wrap (v : Nat) (h : v < 65536) : IntKind.u16.wrap (v : Int) = (v : Int) := by
  have h1 : IntKind.u16.bits = 16 := rfl
  have h2 : IntKind.u16.signed = false := rfl
  simp [IntKind.wrap, h1, h2]
  omega
end Go.Proofs.YtdmogppkambgaaaDoor
