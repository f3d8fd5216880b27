/-
  What is proved: that errors.errorType holds its handle stays so where all older memory is as it was.
  Conditions: none of its own.
-/
import Derived.Test.YtjnhfabgdegngaaDoorStr
namespace Go.Proofs.YtjnhfabgdegngaaDoor
open Go.RowKit

/-- errors.errorType holds what the program lays in it. -/
def Hdl (w : World) : Prop := w.cell? ⟨0, 0, none⟩ = some (.iface 95 (.agg #[.pointer (some ⟨4, 29, none⟩)]))
theorem Hdl.below {w w' : World} (h : Hdl w) (hb : Below w.heap.size w w') : Hdl w' := (hb.cell (World.block_lt_of_cell? w _ h)).trans h
end Go.Proofs.YtjnhfabgdegngaaDoor
