/-
  What is proved: noughts of the laws of layer 2: are there no other bytes; the sum where a pair becomes another one.
  Conditions: fewer than 2^40 bytes.
-/
import Derived.Test.YtphmgnlhnaobkaaSRow
namespace Go.Proofs.Ytphmgnlhnaobkaa
open Go.RowKit

theorem wsum_zero (h : Bool) (bs : List UInt8) : wsum h bs = 0 ↔ ∀ b ∈ bs, b = 0 := by
  induction bs generalizing h with
  | nil => simp [wsum]
  | cons x r ih =>
    have hx : x.toNat = 0 ↔ x = 0 := by rw [← UInt8.toNat_inj]; rfl
    rw [List.forall_mem_cons]
    cases h
    · have := ih true
      simp only [wsum]
      rw [← this, ← hx]
      omega
    · have := ih false
      simp only [wsum]
      rw [← this, ← hx]
      omega
/-- One pair becomes another one. -/
def put2 (bs : List UInt8) (i n : Nat) : List UInt8 := (bs.set i (UInt8.ofNat (n / 256))).set (i + 1) (UInt8.ofNat n)
theorem put2_len (bs : List UInt8) (i n : Nat) : (put2 bs i n).length = bs.length := by simp [put2]
theorem wsum_put2 : ∀ (bs : List UInt8) (k n : Nat) (a b : UInt8), n ≤ 65535 → bs[2 * k]? = some a → bs[2 * k + 1]? = some b → wsum true (put2 bs (2 * k) n) + (a.toNat * 256 + b.toNat) = wsum true bs + n
  | [], k, n, a, b, _, h, _ => by simp at h
  | [x], 0, n, a, b, _, _, h => by simp at h
  | [x], k + 1, n, a, b, _, h, _ => by simp at h
  | x :: y :: r, 0, n, a, b, hn, h1, h2 => by
    have e1 : x = a := by simpa using h1
    have e2 : y = b := by simpa using h2
    subst e1 e2
    simp only [put2, Nat.mul_zero, Nat.zero_add, List.set_cons_zero, List.set_cons_succ, wsum, ofNat_lt]
    omega
  | x :: y :: r, k + 1, n, a, b, hn, h1, h2 => by
    have i1 : 2 * (k + 1) = 2 * k + 1 + 1 := by omega
    rw [i1] at h1 h2
    have ih := wsum_put2 r k n a b hn (by simpa using h1) (by simpa using h2)
    have e : put2 (x :: y :: r) (2 * (k + 1)) n = x :: y :: put2 r (2 * k) n := by
      rw [i1]
      simp only [put2, List.set_cons_succ]
    rw [e]
    simp only [wsum]
    omega

theorem noughts_any (v : Value) (bs : List UInt8) (w : World) (hr : Rd w v bs) (hn : bs.length ≤ 1099511627776) :
    Calls Try.prog 19 #[v] w fun e w' => e = .returned (.bool (decide (wsum true bs = 0))) ∧ w = w' := by
  obtain ⟨A, c, rfl, hc, hcell⟩ := hr
  obtain ⟨L, hL⟩ : ∃ L, L = bs.length := ⟨_, rfl⟩
  have HC := Lib.hid hcell
  have HL := Lib.hid hL
  rw [← hL] at hc hn ⊢
  clear hcell hL
  go_enter Try.func19, Try.ntmps19
  go_wp2_with fail
  go_loopw [3] (fun i wr => ∃ k : Nat, k ≤ L ∧ i = .int .i64 (k : Int) ∧ (∀ j, j < k → bs[j]? = some 0) ∧ w = wr) (fun i _ => L - (intOf i).toNat)
  case atStart => exact ⟨0, by omega, rfl, fun j hj => absurd hj (by omega), rfl⟩
  case round =>
    obtain ⟨k, hk, rfl, hz, rfl⟩ := hrel
    by_cases hlt : k < L
    · obtain ⟨g, o, rfl, hcs⟩ := HC.out (by have := HL.out; omega)
      obtain ⟨x, hx⟩ : ∃ x, bs[k]? = some x := ⟨bs[k]'(by have := HL.out; omega), List.getElem?_eq_getElem _⟩
      have hcx : w.cell? ⟨g, o + k, none⟩ = some (.int .u8 (x.toNat : Int)) := hcs k x hx
      have HZ := Lib.hid hz
      clear hcs hz
      by_cases h0 : x.toNat = 0
      · have q : ((x.toNat : Int) == 0) = true := by rw [beq_iff_eq]; omega
        have hx0 : x = 0 := by rw [← UInt8.toNat_inj]; exact h0
        go_wp2_with fail
        exact ⟨⟨k + 1, by omega, by go_num, fun j hj => by
          rcases Nat.lt_or_ge j k with h | h
          · exact HZ.out j h
          · rw [show j = k by omega, hx, hx0], trivial⟩, by simp [intOf]; omega⟩
      · have q : ((x.toNat : Int) == 0) = false := by rw [beq_eq_false_iff_ne]; omega
        have hd : decide (wsum true bs = 0) = false := by
          rw [decide_eq_false_iff_not, wsum_zero]
          intro h
          exact h0 (by rw [h x (List.mem_of_getElem? hx)]; rfl)
        go_wp2_with fail
        go_ret
        exact ⟨by rw [hd]; rfl, rfl⟩
    · have hkL : k = L := by omega
      have hd : decide (wsum true bs = 0) = true := by
        rw [decide_eq_true_iff, wsum_zero]
        intro b hb
        obtain ⟨j, hj, e⟩ := List.getElem_of_mem hb
        have := hz j (by have := HL.out; omega)
        rw [List.getElem?_eq_getElem hj, e] at this
        exact Option.some.inj this
      go_wp2_with fail
      go_ret
      exact ⟨by rw [hd]; rfl, rfl⟩
end Go.Proofs.Ytphmgnlhnaobkaa
