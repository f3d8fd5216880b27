/-
  What is proved: ether.Parse by contract.
  Conditions: the bytes are fewer than 2^40.
-/
import Derived.Test.YtfaimdopaocpkaaDoorEFrameOk
namespace Go.Proofs.YtfaimdopaocpkaaDoor
open Go.RowKit

def etherWord : ByteArray := ⟨#[101, 116, 104, 101, 114]⟩
theorem noFrm_lit : noFrm = .agg #[.int .u8 0, .int .u8 0, .int .u8 0, .int .u8 0, .int .u8 0, .int .u8 0, .int .u8 0, .int .u8 0, .int .u8 0, .int .u8 0, .int .u8 0, .int .u8 0, .int .i64 0, .int .u16 0, .slice none 0 0] := rfl
/-- Bytes that end too early for a frame. -/
def FShort (bs : List UInt8) : Prop := bs.length < 6 ∨ (∃ (d : M6) (r : List UInt8), bs = d.bs ++ r ∧ r.length < 6) ∨ (∃ (d s : M6) (r : List UInt8), bs = d.bs ++ (s.bs ++ r) ∧ TShort r)

end Go.Proofs.YtfaimdopaocpkaaDoor
