/-
  What is proved: ether.Parse by contract.
  Conditions: the bytes are fewer than 2^40.
-/
import Derived.Test.YtdmogppkambgaaaDoorEFrameOk
namespace Go.Proofs.YtdmogppkambgaaaDoor
open Go.RowKit

def etherWord : ByteArray := ⟨#[101, 116, 104, 101, 114]⟩
theorem noFrm_lit : noFrm = .agg #[.int .u8 0, .int .u8 0, .int .u8 0, .int .u8 0, .int .u8 0, .int .u8 0, .int .u8 0, .int .u8 0, .int .u8 0, .int .u8 0, .int .u8 0, .int .u8 0, .int .i64 0, .int .u16 0, .slice none 0 0] := rfl
/-- Bytes that end too early for a frame. -/
def FShort (bs : List UInt8) : Prop := bs.length < 6 ∨ (∃ (d : M6) (r : List UInt8), bs = d.bs ++ r ∧ r.length < 6) ∨ (∃ (d s : M6) (r : List UInt8), bs = d.bs ++ (s.bs ++ r) ∧ TShort r)

theorem RdrG.of_Read (w : World) (bs : List UInt8) : RdrG ((w.alloc (bytesObj bs)).alloc (.cells #[.slice (some ⟨w.heap.size, 0, none⟩) bs.length bs.length] 111)) ⟨w.heap.size + 1, 0, none⟩ w.heap.size bs := by
  refine ⟨some ⟨w.heap.size, 0, none⟩, ?_, ?_, fun _ => ⟨0, rfl, fun i u hu => ?_⟩⟩
  · rw [World.cell?_alloc_at _ _ _ _ (by simp)]; rfl
  · simp
  · rw [World.cell?_alloc_lt _ _ _ (by simp), Nat.zero_add]
    exact bytesCell (bytesObj_new w bs) i u hu

end Go.Proofs.YtdmogppkambgaaaDoor
