/-
  What is proved: the reader of octets (A1) by contract: U8, U16, U32, Bytes, Rest.
  Conditions: the reader holds fewer than 2^40 bytes.
-/
import Derived.Test.YtfaimdopaocpkaaDoorReader
import Derived.Laws.BitsAllLaws
namespace Go.Proofs.YtfaimdopaocpkaaDoor
open Go.RowKit

theorem or_shift (a b : Nat) (ha : a < 16777216) (hb : b < 256) : bits .or .u32 ((a * 256 : Nat) : Int) (b : Int) = ((a * 256 + b : Nat) : Int) := by
  rw [u32_or_nat _ _ (by omega) (by omega)]
  have h := Nat.two_pow_add_eq_or_of_lt (i := 8) (b := b) (by omega) a
  rw [show a * 256 = 2 ^ 8 * a by omega, h]

theorem or_shiftI (a b : Int) (h0 : 0 ≤ a) (ha : a < 16777216) (h1 : 0 ≤ b) (hb : b < 256) : bits .or .u32 (a * 256) b = a * 256 + b := by
  obtain ⟨m, rfl⟩ := Int.eq_ofNat_of_zero_le h0
  obtain ⟨n, rfl⟩ := Int.eq_ofNat_of_zero_le h1
  have h := or_shift m n (by omega) (by omega)
  simpa using h
theorem or_zero (b : Int) (h1 : 0 ≤ b) (hb : b < 256) : bits .or .u32 0 b = b := by
  have h := or_shiftI 0 b (by omega) (by omega) h1 hb
  simpa using h

end Go.Proofs.YtfaimdopaocpkaaDoor
