/-
  What is proved: ether.Frame's Bytes where it answers an error, by contract; the fields of a frame that lies in a block.
  Conditions: the frame's bytes are fewer than 2^40.
-/
import Derived.Test.YtdmogppkambgaaaDoorEBytes
import Derived.Test.YtdmogppkambgaaaDoorOneW
import Derived.Deep.RegionLaw
namespace Go.Proofs.YtdmogppkambgaaaDoor
open Go.RowKit

/-- An error of ether's own. -/
def EErr (n : Int) (w : World) (e : Ending) (w' : World) : Prop := ∃ b, e = .returned (.tuple #[.slice none 0 0, .iface 106 (.pointer (some ⟨b, 0, none⟩))]) ∧ Chain w' n [etherWord] (.iface 106 (.pointer (some ⟨b, 0, none⟩))) ∧ Below w.heap.size w w'

theorem chain_at {w : World} {n : Int} {l : List ByteArray} {a b : Nat} (h : Chain w n l (.iface 106 (.pointer (some ⟨a, 0, none⟩)))) (e : a = b) : Chain w n l (.iface 106 (.pointer (some ⟨b, 0, none⟩))) := e ▸ h

end Go.Proofs.YtdmogppkambgaaaDoor
