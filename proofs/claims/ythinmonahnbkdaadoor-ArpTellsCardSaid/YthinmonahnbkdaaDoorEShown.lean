/-
  What is proved: 'shown' of the laws of layer 3 answers true, and leaves all older memory as it was.
  Conditions: errors.errorType holds the handle of the type error; api.All holds six times 255.
-/
import Derived.Test.YthinmonahnbkdaaDoorEBytesDo
import Derived.Test.YthinmonahnbkdaaDoorSRow
namespace Go.Proofs.YthinmonahnbkdaaDoor
open Go.RowKit

theorem mac_eqI (a0 a1 a2 a3 a4 a5 b0 b1 b2 b3 b4 b5 : Int) (w : World) : (Op.equalIn 10000 25 (.agg #[.int .u8 a0, .int .u8 a1, .int .u8 a2, .int .u8 a3, .int .u8 a4, .int .u8 a5]) (.agg #[.int .u8 b0, .int .u8 b1, .int .u8 b2, .int .u8 b3, .int .u8 b4, .int .u8 b5])).run Tryd.prog w =
    .ok (a0 == b0 && (a1 == b1 && (a2 == b2 && (a3 == b3 && (a4 == b4 && a5 == b5))))) w := by
  have u5 := Tryd.underlying5
  have g5 := Tryd.isAgg5
  have z5 := Tryd.sizeOf5
  rw [show (10000 : Nat) = 9999 + 1 from rfl, Op.equalIn]
  simp only [Sem.run_bind, run_underlying Tryd.underlying25, Result.andThen_ok]
  simp only [Std.Legacy.Range.forIn_eq_forIn_range', Std.Legacy.Range.size, Nat.sub_zero, Nat.add_sub_cancel, Nat.div_one, List.range'_succ, List.range'_zero, List.forIn_cons, List.forIn_nil]
  go_simp
  by_cases h0 : a0 = b0
  · by_cases h1 : a1 = b1
    · by_cases h2 : a2 = b2
      · by_cases h3 : a3 = b3
        · by_cases h4 : a4 = b4
          · by_cases h5 : a5 = b5 <;> simp [h0, h1, h2, h3, h4, h5]
          · simp [h0, h1, h2, h3, h4]
        · simp [h0, h1, h2, h3]
      · simp [h0, h1, h2]
    · simp [h0, h1]
  · simp [h0]
def shBs : List UInt8 := [255, 255, 255, 255, 255, 255, 2, 2, 2, 2, 2, 2, 129, 0, 0, 5, 8, 6, 9]
def shFrm : Frm := ⟨⟨255, 255, 255, 255, 255, 255⟩, ⟨2, 2, 2, 2, 2, 2⟩, 5, 2054, [9]⟩
theorem shFrm_ok : shFrm.Ok := ⟨by decide, .inr ⟨by decide, by decide⟩⟩
theorem shFrm_bs : shFrm.bs = shBs := by decide
end Go.Proofs.YthinmonahnbkdaaDoor
