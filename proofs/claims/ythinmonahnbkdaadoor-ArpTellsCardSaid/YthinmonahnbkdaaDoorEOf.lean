/-
  What is proved: 'of' of the laws of layer 3 by contract: the document's frame of a frame.
  Conditions: none of its own.
-/
import Derived.Test.YthinmonahnbkdaaDoorEBox
import Derived.StillTailTactics
import Derived.BigQuiet
import Derived.Deep.QuietTactic
namespace Go.Proofs.YthinmonahnbkdaaDoor
open Go.RowKit

theorem u32_fits (z : Int) (h1 : 0 ≤ z) (h2 : z < 4294967296) : IntKind.u32.wrap z = z := by
  have a : IntKind.u32.bits = 32 := rfl
  have b : IntKind.u32.signed = false := rfl
  simp only [IntKind.wrap, a, b]
  simp
  omega
/-- The document's frame. -/
def refRow (f : Frm) : Array Value := #[.string (txt f.dst.bs), .string (txt f.src.bs), .int .i64 f.vlan, .int .u32 f.ty, .string (txt f.b)]
def refZero : Array Value := #[.string ⟨#[]⟩, .string ⟨#[]⟩, .int .i64 0, .int .u32 0, .string ⟨#[]⟩]
theorem refRow_one (f : Frm) : (refRow f).all (·.oneCell') = true := by simp [refRow, Value.oneCell']

end Go.Proofs.YthinmonahnbkdaaDoor
