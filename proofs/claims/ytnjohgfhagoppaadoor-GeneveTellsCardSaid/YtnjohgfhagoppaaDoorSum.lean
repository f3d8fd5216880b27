/-
  What is proved: package sum by contract: weigh, turn, Sum, Valid, Update, Pseudo: what each returns; no memory is written (Pseudo makes one block).
  Conditions: the parts hold fewer than 2^40 bytes together.
-/
import Derived.Test.YtnjohgfhagoppaaDoorSMem
import Derived.Laws.Bits64b
namespace Go.Proofs.YtnjohgfhagoppaaDoor
open Go.RowKit

/-- What is above the lowest 16 bits added to these, as long as there is any. -/
def fold (n : Nat) : Nat := if n = 0 then 0 else (n - 1) % 65535 + 1
theorem fold_le (n : Nat) : fold n ≤ 65535 := by unfold fold; split <;> omega
theorem fold_small {n : Nat} (h : n ≤ 65535) : fold n = n := by unfold fold; split <;> omega
theorem fold_step (n : Nat) : fold (n % 65536 + n / 65536) = fold n := by unfold fold; split <;> split <;> omega
theorem fold_eq {a b : Nat} (h0 : a = 0 ↔ b = 0) (h : a % 65535 = b % 65535) : fold a = fold b := by unfold fold; split <;> split <;> omega
theorem fold_mod (a : Nat) : fold a % 65535 = a % 65535 := by unfold fold; split <;> omega
theorem fold_zero (a : Nat) : fold a = 0 ↔ a = 0 := by unfold fold; split <;> omega

/-- The sum of the pairs, byte by byte: 'true': the next byte is the higher one. -/
def wsum : Bool → List UInt8 → Nat
  | _, [] => 0
  | true, b :: r => b.toNat * 256 + wsum false r
  | false, b :: r => b.toNat + wsum true r
/-- Which byte is next behind 'n' bytes. -/
def par (h : Bool) (n : Nat) : Bool := if n % 2 = 0 then h else !h
theorem wsum_append (h : Bool) (a b : List UInt8) : wsum h (a ++ b) = wsum h a + wsum (par h a.length) b := by
  induction a generalizing h with
  | nil => simp [wsum, par]
  | cons x a ih =>
    have hp : par (!h) a.length = par h (a.length + 1) := by
      unfold par
      by_cases h1 : a.length % 2 = 0
      · have h2 : (a.length + 1) % 2 ≠ 0 := by omega
        simp [h1, h2]
      · have h2 : (a.length + 1) % 2 = 0 := by omega
        simp [h1, h2]
    cases h
    · simp only [List.cons_append, wsum, ih, List.length_cons]
      rw [show (true : Bool) = !false from rfl, hp]; omega
    · simp only [List.cons_append, wsum, ih, List.length_cons]
      rw [show (false : Bool) = !true from rfl, hp]; omega
theorem par_add (h : Bool) (a b : Nat) : par h (a + b) = par (par h a) b := by
  unfold par
  by_cases h1 : a % 2 = 0 <;> by_cases h2 : b % 2 = 0
  · have h3 : (a + b) % 2 = 0 := by omega
    simp [h1, h2, h3]
  · have h3 : (a + b) % 2 ≠ 0 := by omega
    simp [h1, h2, h3]
  · have h3 : (a + b) % 2 ≠ 0 := by omega
    simp [h1, h2, h3]
  · have h3 : (a + b) % 2 = 0 := by omega
    simp [h1, h2, h3]
theorem wsum_le (h : Bool) (a : List UInt8) : wsum h a ≤ 65280 * a.length := by
  induction a generalizing h with
  | nil => simp [wsum]
  | cons x a ih =>
    have := x.toNat_lt
    cases h
    · have := ih true; simp only [wsum, List.length_cons]; omega
    · have := ih false; simp only [wsum, List.length_cons]; omega
/-- The sum that the document asks for. -/
def ck (bs : List UInt8) : Nat := 65535 - fold (wsum true bs)
theorem ck_le (bs : List UInt8) : ck bs ≤ 65535 := by unfold ck; omega

theorem and_low (m : Nat) (hm : m < 18446744073709551616) : bits .and .u64 (m : Int) 65535 = ((m % 65536 : Nat) : Int) := by
  have h := bits_and_u64_nat m 65535 hm (by omega)
  rw [show (65535 : Nat) = 2 ^ 16 - 1 from rfl, Nat.and_two_pow_sub_one_eq_mod] at h
  exact h
theorem and_low_i64 (x : Int) : bits .and .i64 x 65535 = x % 65536 := by
  have h2 : (BitVec.ofInt 64 (65535 : Int)).toNat = 2 ^ 16 - 1 := rfl
  show IntKind.i64.wrap ((BitVec.ofInt 64 x &&& BitVec.ofInt 64 (65535 : Int)).toNat : Int) = _
  rw [BitVec.toNat_and, h2, Nat.and_two_pow_sub_one_eq_mod, BitVec.toNat_ofInt, IntKind.wrap_i64]
  omega
theorem xor_all (m : Nat) (hm : m ≤ 65535) : bits .xor .u16 IntKind.u16.max (m : Int) = ((65535 - m : Nat) : Int) := by
  have h1 : (BitVec.ofInt 16 (m : Int)).toNat = m := by
    rw [BitVec.ofInt_natCast, BitVec.toNat_ofNat]; exact Nat.mod_eq_of_lt (by omega)
  have h2 : BitVec.ofInt 16 (IntKind.u16.max) = BitVec.allOnes 16 := rfl
  show IntKind.u16.wrap ((BitVec.ofInt 16 IntKind.u16.max ^^^ BitVec.ofInt 16 (m : Int)).toNat : Int) = _
  rw [h2, BitVec.allOnes_xor, BitVec.toNat_not, h1, IntKind.wrap_u16]
  omega

/-- The slice value 'v' holds slices that hold the bytes 'bss'. -/
def RdL (w : World) (v : Value) (bss : List (List UInt8)) : Prop :=
  ∃ A c, v = .slice A bss.length c ∧ bss.length ≤ c ∧ (0 < bss.length → ∃ g o, A = some ⟨g, o, none⟩ ∧ ∀ i bs, bss[i]? = some bs → ∃ u, w.cell? ⟨g, o + i, none⟩ = some u ∧ Rd w u bs)

theorem beq_dec (n : Nat) : (((n : Nat) : Int) == 0) = decide (n = 0) := by by_cases h : n = 0 <;> simp [h]
/-- The twelve bytes of Pseudo. -/
def psd (s d p : Nat) (n : Int) : List UInt8 := be4 s ++ be4 d ++ [0, UInt8.ofNat p, b8i (n / 256), b8i n]
theorem psd_len (s d p : Nat) (n : Int) : (psd s d p n).length = 12 := rfl
end Go.Proofs.YtnjohgfhagoppaaDoor
