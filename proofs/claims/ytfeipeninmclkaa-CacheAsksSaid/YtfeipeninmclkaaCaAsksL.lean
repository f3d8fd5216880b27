/-
  What is proved: what a cache does that is asked in vain: one entry, ten ticks. No program's text.
  Conditions: none.
-/
import Derived.Test.YtfeipeninmclkaaCaCx
namespace Go.Proofs.Ytfeipeninmclkaa

def pp : List UInt8 := [112]
def one (ip t tr : Int) (P : List (List UInt8)) : List En := [⟨ip, false, Mc.zero, t, tr, P⟩]
def wS (ip now : Int) (i : Nat) : List En := if i = 0 then [] else one ip now 1 (List.replicate i pp)
def Pf (n : Nat) : List (List UInt8) := if n < 4 then List.replicate n pp ++ [[]] else List.replicate 4 pp
section
variable {ip now t tr u : Int} {P : List (List UInt8)} {p : List UInt8}
theorem look_one' : look (one ip t tr P) ip = some ⟨ip, false, Mc.zero, t, tr, P⟩ := by simp [look, one]
theorem wait_nil : waitA [] ip now = true ∧ waitC [] ip now = 0 ∧ waitL [] ip now p = one ip now 1 [p] := by
  have h : stand [] ip now = 0 := rfl
  refine ⟨?_, ?_, ?_⟩
  · unfold waitA; rw [if_pos h]; rfl
  · unfold waitC; rw [if_pos h]; rfl
  · unfold waitL; rw [if_pos h]; rfl
theorem wait_one : waitA (one ip t tr P) ip now = false ∧ waitC (one ip t tr P) ip now = (if 4 ≤ P.length then 5 else 0) ∧
    waitL (one ip t tr P) ip now p = (if 4 ≤ P.length then one ip t tr P else one ip t tr (P ++ [p])) := by
  have h : stand (one ip t tr P) ip now = 2 := by unfold stand; rw [look_one']; rfl
  have h0 : ¬ (2 : Int) = 0 := by omega
  have h1 : ¬ (2 : Int) = 1 := by omega
  refine ⟨?_, ?_, ?_⟩
  · unfold waitA; rw [h, if_neg h0, if_neg h1]
  · unfold waitC queueC; rw [h, if_neg h0, if_neg h1, if_pos rfl, look_one']
  · unfold waitL queueL; rw [h, if_neg h0, if_neg h1, if_pos rfl, look_one']
    simp [putL, one, more]
theorem wS_wait {i : Nat} (hi : i < 4) : waitA (wS ip now i) ip now = ((i : Int) == 0) ∧ waitC (wS ip now i) ip now = 0 ∧ waitL (wS ip now i) ip now pp = wS ip now (i + 1) := by
  by_cases h0 : i = 0
  · subst h0
    obtain ⟨a, b, c⟩ := wait_nil (ip := ip) (now := now) (p := pp)
    exact ⟨a, b, c⟩
  · have e : wS ip now i = one ip now 1 (List.replicate i pp) := if_neg h0
    have e2 : wS ip now (i + 1) = one ip now 1 (List.replicate (i + 1) pp) := if_neg (by omega)
    have h4 : ¬ 4 ≤ (List.replicate i pp).length := by simp; omega
    obtain ⟨a, b, c⟩ := wait_one (ip := ip) (now := now) (t := now) (tr := 1) (P := List.replicate i pp) (p := pp)
    rw [if_neg h4] at b c
    rw [e, e2, List.replicate_succ']
    exact ⟨a.trans (by rw [eq_comm, beq_eq_false_iff_ne]; omega), b, c⟩
theorem wS_last {n : Nat} (h1 : 1 ≤ n) (h4 : n ≤ 4) : waitC (wS ip now n) ip now = (if n < 4 then 0 else 5) ∧ waitL (wS ip now n) ip now [] = one ip now 1 (Pf n) := by
  have e : wS ip now n = one ip now 1 (List.replicate n pp) := if_neg (by omega)
  obtain ⟨a, b, c⟩ := wait_one (ip := ip) (now := now) (t := now) (tr := 1) (P := List.replicate n pp) (p := [])
  rw [List.length_replicate] at b c
  rw [e, b, c]
  unfold Pf
  by_cases h : n < 4
  · rw [if_pos h, if_pos h, if_neg (by omega), if_neg (by omega)]
    exact ⟨rfl, rfl⟩
  · have : n = 4 := by omega
    subst this
    exact ⟨rfl, rfl⟩
theorem Pf_length {n : Nat} (_ : n ≤ 4) : (Pf n).length = if n < 4 then n + 1 else 4 := by
  unfold Pf
  split <;> simp
def tS (ip now : Int) (P : List (List UInt8)) (k : Nat) : List En := if k ≤ 2 then one ip now 1 P else if k ≤ 4 then one ip (now + 2) 2 P else if k ≤ 6 then one ip (now + 4) 3 P else []
theorem tick_wait (h : t ≤ u) (h2 : u - t < 2) : tickA (one ip t tr P) u = [] ∧ tickN (one ip t tr P) u = 0 ∧ tickL (one ip t tr P) u = one ip t tr P := by
  have ha : ¬ u < t := by omega
  have hb : ¬ 2 ≤ u - t := by omega
  simp [tickA, tickN, tickL, one, tick1, again, goes, due, old, age, ha, hb]
theorem tick_again (h2 : 2 ≤ u - t) (h3 : tr < 3) : tickA (one ip t tr P) u = [ip] ∧ tickN (one ip t tr P) u = 0 ∧ tickL (one ip t tr P) u = one ip u (tr + 1) P := by
  have ha : ¬ u < t := by omega
  have hb : ¬ 3 ≤ tr := by omega
  simp [tickA, tickN, tickL, one, tick1, again, goes, due, old, age, ha, hb, h2, next]
theorem tick_goes (h2 : 2 ≤ u - t) (h3 : 3 ≤ tr) : tickA (one ip t tr P) u = [] ∧ tickN (one ip t tr P) u = P.length ∧ tickL (one ip t tr P) u = [] := by
  have ha : ¬ u < t := by omega
  simp [tickA, tickN, tickL, one, tick1, again, goes, due, old, age, ha, h2, h3]
theorem tS_tick {k : Nat} (h1 : 1 ≤ k) (h10 : k ≤ 10) : tickA (tS ip now P k) (now + k) = (if k = 2 ∨ k = 4 then [ip] else []) ∧ tickN (tS ip now P k) (now + k) = (if k = 6 then P.length else 0) ∧ tickL (tS ip now P k) (now + k) = tS ip now P (k + 1) := by
  have hk : k = 1 ∨ k = 2 ∨ k = 3 ∨ k = 4 ∨ k = 5 ∨ k = 6 ∨ k = 7 ∨ k = 8 ∨ k = 9 ∨ k = 10 := by omega
  rcases hk with rfl | rfl | rfl | rfl | rfl | rfl | rfl | rfl | rfl | rfl
  · exact tick_wait (by omega) (by omega)
  · exact tick_again (by omega) (by omega)
  · exact tick_wait (by omega) (by omega)
  · obtain ⟨a, b, c⟩ := tick_again (ip := ip) (t := now + 2) (u := now + 4) (tr := 2) (P := P) (by omega) (by omega)
    exact ⟨a, b, c⟩
  · exact tick_wait (by omega) (by omega)
  · exact tick_goes (by omega) (by omega)
  · exact ⟨rfl, rfl, rfl⟩
  · exact ⟨rfl, rfl, rfl⟩
  · exact ⟨rfl, rfl, rfl⟩
  · exact ⟨rfl, rfl, rfl⟩
end
theorem and_3 (x : Int) : bits .and .i64 x 3 = x % 4 := by
  have h2 : (BitVec.ofInt 64 (3 : Int)).toNat = 2 ^ 2 - 1 := rfl
  show IntKind.i64.wrap ((BitVec.ofInt 64 x &&& BitVec.ofInt 64 (3 : Int)).toNat : Int) = _
  rw [BitVec.toNat_and, h2, Nat.and_two_pow_sub_one_eq_mod, BitVec.toNat_ofInt, IntKind.wrap_i64]
  omega
theorem and_62 (x : Int) : bits .and .u64 x 4611686018427387903 = x % 4611686018427387904 := by
  have h2 : (BitVec.ofInt 64 (4611686018427387903 : Int)).toNat = 2 ^ 62 - 1 := rfl
  show IntKind.u64.wrap ((BitVec.ofInt 64 x &&& BitVec.ofInt 64 (4611686018427387903 : Int)).toNat : Int) = _
  rw [BitVec.toNat_and, h2, Nat.and_two_pow_sub_one_eq_mod, BitVec.toNat_ofInt, IntKind.wrap_u64]
  omega
end Go.Proofs.Ytfeipeninmclkaa
