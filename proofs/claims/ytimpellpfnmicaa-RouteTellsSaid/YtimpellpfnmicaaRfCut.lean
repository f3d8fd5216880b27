/-
  What is proved: the document's Cut, Covers and the laws' 'same' by contract.
  Conditions: the numbers fit their types.
-/
import Derived.Test.YtimpellpfnmicaaRtCmp
import Derived.Deep.QuietTactic
import Derived.BigQuiet
namespace Go.Proofs.Ytimpellpfnmicaa
open Go.RowKit

theorem max_run {P : Program} (ats : Array TypeId) (ty : TypeId) (a b k : Int) (h : k = max a b) (W : World) : (Builtin.max_ ats ty #[.int .i64 a, .int .i64 b]).run P W = .ok (.int .i64 k) W := by
  subst h
  by_cases hba : a < b
  · simp [Builtin.max_, Builtin.max2, hba]
    omega
  · simp [Builtin.max_, Builtin.max2, hba]
    omega

set_option maxRecDepth 100000 in
theorem rcut_any (x b : Int) (hx : U32 x) (hb : I64 b) (w : World) : Calls Try.prog 12 #[.int .u32 x, .int .i64 b] w fun e w' => e = .returned (.int .u32 (cutI x b)) ∧ w' = w := by
  obtain ⟨m, hm⟩ : ∃ m, m = max b 0 := ⟨_, rfl⟩
  have hm0 : 0 ≤ m := by omega
  have hm1 : m ≤ 9223372036854775807 := by have := hb.2; omega
  have hmax := fun W => max_run (P := Try.prog) #[3, 3] 3 b 0 m hm W
  obtain ⟨P, hP⟩ : ∃ P, pw b = P := ⟨_, rfl⟩
  have HP : Hid (∀ (n i : Int) (j : Nat), n = 2 ^ j → i = m + j → (j = 0 ∨ i ≤ 32) → 32 ≤ i → n = P) := Lib.hid (fun n i j h1 h2 h3 h4 => by
    rw [h1, ← hP]
    unfold pw
    congr 1
    omega)
  obtain ⟨hx0, hx1⟩ := hx
  unfold cutI
  rw [hP]
  have hP0 : 0 < P := by rw [← hP]; exact pw_pos b
  clear hP hm hb
  go_enter Try.func12, Try.ntmps12
  go_wp2_with fail
  clear hmax
  go_loopw [5, 6] (fun s5 s6 wr => ∃ (n i : Int), s5 = .int .u64 n ∧ s6 = .int .i64 i ∧ (∃ j : Nat, n = 2 ^ j ∧ i = m + j ∧ (j = 0 ∨ i ≤ 32)) ∧ wr = w) (fun _ s6 _ => (32 - intOf s6).toNat)
  case atStart => exact ⟨1, m, rfl, rfl, ⟨0, by simp, by simp, .inl rfl⟩, rfl⟩
  case round =>
    obtain ⟨n, i, rfl, rfl, ⟨j, hn, hi, hj⟩, rfl⟩ := hrel
    by_cases hlt : i < 32
    · have q1 : decide (i < 32) = true := decide_eq_true hlt
      have hn0 : 0 < n := by rw [hn]; exact Int.pow_pos (by decide)
      have hn1 : n ≤ 2147483648 := by
        rw [hn]
        have h1 : 2 ^ j ≤ 2 ^ 31 := Nat.pow_le_pow_right (by decide) (show j ≤ 31 by omega)
        have h2 : ((2 ^ j : Nat) : Int) ≤ ((2 ^ 31 : Nat) : Int) := by exact_mod_cast h1
        simpa using h2
      have HJ : Hid (∃ j' : Nat, 2 * n = 2 ^ j' ∧ i + 1 = m + j' ∧ (j' = 0 ∨ i + 1 ≤ 32)) := Lib.hid ⟨j + 1, by rw [hn, Int.pow_succ]; omega, by omega, .inr (by omega)⟩
      have hi0 : 0 ≤ i := by omega
      clear hn hi hj
      have e1 : IntKind.u64.wrap (2 * n) = 2 * n := by rw [IntKind.wrap_u64]; omega
      go_wp2_with fail
      exact ⟨⟨2 * n, i + 1, by simp [e1], by simp, HJ.out, by simp⟩, by simp [intOf]; omega⟩
    · have q1 : decide (i < 32) = false := decide_eq_false hlt
      obtain rfl := HP.out n i j hn hi hj (by omega)
      obtain ⟨r, hr⟩ : ∃ r, x % n = r := ⟨_, rfl⟩
      have hr0 : 0 ≤ r := by rw [← hr]; exact Int.emod_nonneg x (by omega)
      have hr1 : r ≤ x := by rw [← hr]; exact emod_le_self hx0 hP0
      have ht : x.tmod n = r := by rw [Int.tmod_eq_emod_of_nonneg hx0, hr]
      have hn2 : n < 18446744073709551616 := by
        rw [hn]
        have h1 : 2 ^ j ≤ 2 ^ 32 := Nat.pow_le_pow_right (by decide) (show j ≤ 32 by omega)
        have h2 : ((2 ^ j : Nat) : Int) ≤ ((2 ^ 32 : Nat) : Int) := by exact_mod_cast h1
        have h3 : ((2 ^ j : Nat) : Int) = (2 : Int) ^ j := by simp
        have h4 : ((2 ^ 32 : Nat) : Int) = 4294967296 := by decide
        omega
      have Hr := Lib.hid hr
      have hnz : n ≠ 0 := by omega
      clear hr hn hi hj HP
      go_wp2_with fail
      go_ret
      rw [Hr.out]
      exact ⟨by simp; try omega, rfl⟩
end Go.Proofs.Ytimpellpfnmicaa
