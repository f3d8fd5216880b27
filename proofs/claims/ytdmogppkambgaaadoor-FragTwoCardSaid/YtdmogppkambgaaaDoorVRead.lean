/-
  What is proved: ipv4's readHeader and check by contract.
  Conditions: the twenty bytes are those of numbers that fit.
-/
import Derived.Test.YtdmogppkambgaaaDoorVBytes
import Derived.Laws.Rows
namespace Go.Proofs.YtdmogppkambgaaaDoor
open Go.RowKit

/-- A reader that is younger than 'w', of which all is as it was. -/
structure Rs (w W : World) (q : Nat) (bs : List UInt8) : Prop where
  rdr : Rdr W ⟨q, 0, none⟩ bs
  old : Below w.heap.size w W
  new : w.heap.size ≤ q
  len : bs.length ≤ 1099511627776
section
variable {w W : World} {q : Nat} {r : List UInt8}
theorem Rs.step (h : Rs w W q r) {W' : World} {r' : List UInt8} (h1 : Rdr W' ⟨q, 0, none⟩ r') (h2 : Fr (· = ⟨q, 0, none⟩) W W') (hl : r'.length ≤ 1099511627776) : Rs w W' q r' :=
  ⟨h1, below_to h.old (h2.below (B := w.heap.size) h.old.size (fun x hx => by subst hx; exact h.new)) (Nat.le_refl _), h.new, hl⟩
theorem Rs.u32 (n : Nat) (hn : n < 4294967296) (h : Rs w W q (be4 n ++ r)) :
    Calls Tryd.prog 52 #[.pointer (some ⟨q, 0, none⟩)] W fun e w' => e = .returned (.tuple #[.int .u32 n, .nilIface]) ∧ Rs w w' q r := by
  refine (U32_ok _ _ _ _ _ _ _ h.rdr h.len).mono ?_
  rintro e w' ⟨rfl, h1, h2, _⟩
  have e1 : ((((UInt8.ofNat (n / 16777216)).toNat : Int) * 256 + (UInt8.ofNat (n / 65536)).toNat) * 256 + (UInt8.ofNat (n / 256)).toNat) * 256 + (UInt8.ofNat n).toNat = (n : Int) := by rw [ofNat_lt, ofNat_lt, ofNat_lt, ofNat_lt]; omega
  rw [e1]
  exact ⟨rfl, h.step h1 h2 (by have := h.len; simp [be4] at this; omega)⟩
end

/-- The packet that a head tells of, without its bytes. -/
def Hd.pk (h : Hd) : Ip := ⟨h.tos, h.id, decide (h.bits / 16384 % 2 = 1), decide (h.bits / 8192 % 2 = 1), ((h.bits % 8192 * 8 : Nat) : Int), h.ttl, h.proto, h.src, h.dst, []⟩
def Hd.row (h : Hd) : Array Value := #[.int .u8 (h.first / 16 : Nat), .int .u8 (h.first % 16 : Nat), .int .i64 h.size, .int .u16 h.bits,
  .int .u8 h.tos, .int .u16 h.id, .bool (decide (h.bits / 16384 % 2 = 1)), .bool (decide (h.bits / 8192 % 2 = 1)), .int .i64 (h.bits % 8192 * 8 : Nat), .int .u8 h.ttl, .int .u8 h.proto, .int .u32 h.src, .int .u32 h.dst, .slice none 0 0]
def hdZero : Array Value := #[.int .u8 0, .int .u8 0, .int .i64 0, .int .u16 0, .int .u8 0, .int .u16 0, .bool false, .bool false, .int .i64 0, .int .u8 0, .int .u8 0, .int .u32 0, .int .u32 0, .slice none 0 0]
theorem hdRow_one (h : Hd) : h.row.all (·.oneCell') = true := by simp [Hd.row, Value.oneCell']
theorem and_bit (n k : Nat) (hn : n < 65536) (hk : k < 16) : bits .and .u16 (n : Int) ((2 ^ k : Nat) : Int) = ((n / 2 ^ k % 2 * 2 ^ k : Nat) : Int) := by
  have hk2 : 2 ^ k < 65536 := by
    have := Nat.pow_lt_pow_right (a := 2) (by decide) hk
    omega
  rw [u16_and_nat n _ hn hk2]
  congr 1
  apply Nat.eq_of_testBit_eq
  intro i
  rw [Nat.testBit_and, Nat.testBit_two_pow, Nat.testBit_mul_two_pow]
  by_cases h : k = i
  · subst h
    simp [Nat.testBit, Nat.shiftRight_eq_div_pow]
  · simp only [h, decide_false, Bool.and_false]
    by_cases h2 : k ≤ i
    · obtain ⟨j, rfl⟩ : ∃ j, i = k + (j + 1) := ⟨i - k - 1, by omega⟩
      have : k + (j + 1) - k = j + 1 := by omega
      rw [this, Nat.testBit_succ]
      have : n / 2 ^ k % 2 / 2 = 0 := by omega
      rw [this]
      simp
    · simp [h2]
theorem and_flag {x : Int} {n k : Nat} (h : x = ((n % 2 * k : Nat) : Int)) (hk : 0 < k) : (x != 0) = decide (n % 2 = 1) := by
  rcases Nat.mod_two_eq_zero_or_one n with h1 | h1
  · rw [h, h1]
    simp
  · rw [h, h1]
    have : ((1 * k : Nat) : Int) ≠ 0 := by omega
    simp
    omega
theorem and_low13 (n : Nat) (hn : n < 65536) : bits .and .u16 (n : Int) 8191 = ((n % 8192 : Nat) : Int) := by
  have h := u16_and_nat n 8191 hn (by decide)
  rw [show (8191 : Nat) = 2 ^ 13 - 1 from rfl, Nat.and_two_pow_sub_one_eq_mod] at h
  exact h
theorem and_low4 (n : Nat) (hn : n < 256) : bits .and .u8 (n : Int) 15 = ((n % 16 : Nat) : Int) := by
  have h := u8_and_nat n 15 hn (by decide)
  rw [show (15 : Nat) = 2 ^ 4 - 1 from rfl, Nat.and_two_pow_sub_one_eq_mod] at h
  exact h
/-- What is wrong ahead of the sum; 'n' bytes in all. -/
def Hd.wrong (h : Hd) (n : Nat) : Nat := if h.first / 16 ≠ 4 then 12 else if h.first % 16 < 5 then 3 else if 5 < h.first % 16 then 11 else if h.size < 20 then 3 else if n < h.size then 2 else 0
/-- What check tells. -/
def CheckTold (k : Nat) (w : World) (e : Ending) (w' : World) : Prop :=
  Below w.heap.size w w' ∧ e = .returned (if k = 0 then .nilIface else .iface 30 (.int .i64 k))
end Go.Proofs.YtdmogppkambgaaaDoor
