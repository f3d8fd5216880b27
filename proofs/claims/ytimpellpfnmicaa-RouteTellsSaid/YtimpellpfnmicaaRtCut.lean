/-
  What is proved: route.Cut by contract: the address with nothing but noughts behind its first bits.
  Conditions: the address fits its type, the number of bits too.
-/
import Derived.Test.YtimpellpfnmicaaRtBlk
import Derived.Lib.Hide
import Derived.OwnWalk
import Derived.Laws.Bits64b
namespace Go.Proofs.Ytimpellpfnmicaa
open Go.RowKit

theorem mask_eq : ∀ k : Fin 33, (4294967295 : Int) / 2 ^ k.val = ((2 ^ (32 - k.val) - 1 : Nat) : Int) := by decide
theorem and_mask (n j : Nat) (hj : j ≤ 32) : (BitVec.ofNat 32 n &&& ~~~ (BitVec.ofNat 32 (2 ^ j - 1))) = BitVec.ofNat 32 (2 ^ j * (n / 2 ^ j)) := by
  apply BitVec.eq_of_getLsbD_eq
  intro i hi
  rw [BitVec.getLsbD_and, BitVec.getLsbD_not]
  simp only [BitVec.getLsbD_ofNat, Nat.testBit_two_pow_mul, Nat.testBit_two_pow_sub_one]
  by_cases h : i < j
  · have h2 : ¬ j ≤ i := by omega
    simp [h, h2]
  · have h2 : j ≤ i := by omega
    simp [h, h2, hi, Nat.testBit_div_two_pow]
theorem andNot_cut {x b : Int} (h0 : 0 ≤ x) (h1 : x < 4294967296) (_hb : 0 ≤ b) : ((BitVec.ofInt 32 x &&& ~~~ (BitVec.ofInt 32 (4294967295 / 2 ^ min b.toNat 32))).toNat : Int) = cutI x b := by
  obtain ⟨n, rfl⟩ : ∃ n : Nat, x = (n : Int) := ⟨x.toNat, by omega⟩
  have hk := mask_eq ⟨min b.toNat 32, by omega⟩
  simp only at hk
  have e : (min (max b 0) 32).toNat = min b.toNat 32 := by omega
  rw [hk, BitVec.ofInt_natCast, BitVec.ofInt_natCast, and_mask n _ (by omega), BitVec.toNat_ofNat]
  unfold cutI pw
  rw [e]
  generalize 32 - min b.toNat 32 = j
  have e2 := Nat.mod_add_div n (2 ^ j)
  have e3 : (n : Int) % (2 ^ j : Int) = ((n % 2 ^ j : Nat) : Int) := by
    rw [Int.natCast_emod]; simp
  rw [e3, Nat.mod_eq_of_lt (by omega)]
  omega
theorem andNot_low {x b : Int} (h0 : 0 ≤ x) (h1 : x < 4294967296) (hb : b < 0) : ((BitVec.ofInt 32 x &&& ~~~ (BitVec.ofInt 32 4294967295)).toNat : Int) = cutI x b := by
  have e : (min (max b 0) 32).toNat = 0 := by omega
  have e2 : ~~~ (BitVec.ofInt 32 4294967295) = 0#32 := by decide
  rw [e2, BitVec.and_zero]
  unfold cutI pw
  rw [e]
  show (0 : Int) = _
  omega

theorem bits_cut {x b : Int} (hx : U32 x) (hb : 0 ≤ b) : bits .andNot .u32 x (4294967295 / 2 ^ min b.toNat 32) = cutI x b := by
  have h := cut_le hx.1 b
  have h1 := hx.2
  show IntKind.u32.wrap ((BitVec.ofInt 32 x &&& ~~~ (BitVec.ofInt 32 (4294967295 / 2 ^ min b.toNat 32))).toNat : Int) = _
  rw [andNot_cut hx.1 hx.2 hb, IntKind.wrap_u32]
  omega
theorem bits_low {x b : Int} (hx : U32 x) (hb : b < 0) : bits .andNot .u32 x 4294967295 = cutI x b := by
  have h := cut_le hx.1 b
  have h1 := hx.2
  show IntKind.u32.wrap ((BitVec.ofInt 32 x &&& ~~~ (BitVec.ofInt 32 4294967295)).toNat : Int) = _
  rw [andNot_low hx.1 hx.2 hb, IntKind.wrap_u32]
  omega
theorem cut_u32 {x : Int} (hx : U32 x) (b : Int) : U32 (cutI x b) := by
  have h := cut_le hx.1 b
  have h1 := hx.2
  unfold U32
  omega

theorem cut_any (x b : Int) (hx : U32 x) (w : World) : Calls Try.prog 19 #[.int .u32 x, .int .i64 b] w fun e w' => e = .returned (.int .u32 (cutI x b)) ∧ w' = w := by
  by_cases hb : b < 0
  · have e := bits_low hx hb
    generalize cutI x b = y at e ⊢
    go_enter Try.func19, Try.ntmps19
    go_wp2_with fail
    go_ret
    exact ⟨rfl, rfl⟩
  · have hb' : 0 ≤ b := by omega
    have e := bits_cut hx hb'
    generalize cutI x b = y at e ⊢
    go_enter Try.func19, Try.ntmps19
    go_wp2_with fail
    go_ret
    exact ⟨rfl, rfl⟩
end Go.Proofs.Ytimpellpfnmicaa
