/-
  What is proved: noughts of the laws of layer 2: are there no other bytes; the sum where a pair becomes another one.
  Conditions: fewer than 2^40 bytes.
-/
import Derived.Test.YtlhanaglhkmcfaaSRow
namespace Go.Proofs.Ytlhanaglhkmcfaa
open Go.RowKit

theorem wsum_zero (h : Bool) (bs : List UInt8) : wsum h bs = 0 ↔ ∀ b ∈ bs, b = 0 := by
  induction bs generalizing h with
  | nil => simp [wsum]
  | cons x r ih =>
    have hx : x.toNat = 0 ↔ x = 0 := by rw [← UInt8.toNat_inj]; rfl
    rw [List.forall_mem_cons]
    cases h
    · have := ih true
      simp only [wsum]
      rw [← this, ← hx]
      omega
    · have := ih false
      simp only [wsum]
      rw [← this, ← hx]
      omega
/-- One pair becomes another one. -/
def put2 (bs : List UInt8) (i n : Nat) : List UInt8 := (bs.set i (UInt8.ofNat (n / 256))).set (i + 1) (UInt8.ofNat n)
theorem put2_len (bs : List UInt8) (i n : Nat) : (put2 bs i n).length = bs.length := by simp [put2]
theorem wsum_put2 : ∀ (bs : List UInt8) (k n : Nat) (a b : UInt8), n ≤ 65535 → bs[2 * k]? = some a → bs[2 * k + 1]? = some b → wsum true (put2 bs (2 * k) n) + (a.toNat * 256 + b.toNat) = wsum true bs + n
  | [], k, n, a, b, _, h, _ => by simp at h
  | [x], 0, n, a, b, _, _, h => by simp at h
  | [x], k + 1, n, a, b, _, h, _ => by simp at h
  | x :: y :: r, 0, n, a, b, hn, h1, h2 => by
    have e1 : x = a := by simpa using h1
    have e2 : y = b := by simpa using h2
    subst e1 e2
    simp only [put2, Nat.mul_zero, Nat.zero_add, List.set_cons_zero, List.set_cons_succ, wsum, ofNat_lt]
    omega
  | x :: y :: r, k + 1, n, a, b, hn, h1, h2 => by
    have i1 : 2 * (k + 1) = 2 * k + 1 + 1 := by omega
    rw [i1] at h1 h2
    have ih := wsum_put2 r k n a b hn (by simpa using h1) (by simpa using h2)
    have e : put2 (x :: y :: r) (2 * (k + 1)) n = x :: y :: put2 r (2 * k) n := by
      rw [i1]
      simp only [put2, List.set_cons_succ]
    rw [e]
    simp only [wsum]
    omega

end Go.Proofs.Ytlhanaglhkmcfaa
