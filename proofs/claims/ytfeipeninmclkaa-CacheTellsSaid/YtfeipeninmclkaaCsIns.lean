/-
  What is proved: slices.insertionSortOrdered at addresses by contract: the row's part is sorted, as the plain function says.
  Conditions: the part lies in the row.
-/
import Derived.Test.YtfeipeninmclkaaCsRow
namespace Go.Proofs.Ytfeipeninmclkaa
open Go.RowKit

section
variable {α : Type} [Inhabited α] (lt : α → α → Bool)
theorem ins_step (a j : Nat) (d : Array α) (h1 : a < j + 1) (h2 : lt d[j + 1]! d[j]! = true) : Sort.insInner lt a (j + 1) d = Sort.insInner lt a j (Sort.swp d (j + 1) j) := by
  rw [Sort.insInner]
  simp [h1, h2]
theorem ins_end (a j : Nat) (d : Array α) (h : a < j → lt d[j]! d[j - 1]! = false) : Sort.insInner lt a j d = d := by
  cases j with
  | zero => rw [Sort.insInner]
  | succ k =>
    rw [Sort.insInner]
    by_cases hk : a < k + 1
    · have := h hk
      simp only [Nat.add_sub_cancel] at this
      simp [this]
    · simp [show ¬ k + 1 > a by omega]
end

set_option maxRecDepth 100000 in
set_option maxHeartbeats 1000000 in
theorem insertion_any (g o cap a b N : Nat) (d : Array Int) (w : World) (hd : Sort.Holds (Value.int .u32) w g o d) (hN : d.size = N) (hab : a ≤ b) (hb : b ≤ N) (hsz : N ≤ 1000000) :
    Calls Try.prog 45 #[.slice (some ⟨g, o, none⟩) N cap, .int .i64 a, .int .i64 b] w fun e w' =>
      e = .returned (.tuple #[]) ∧ Sr w g o (Sort.insertionSort Sort.ltInt d a b) w' := by
  have H0 := Lib.hid (Sr.start hd)
  have HN := Lib.hid hN
  clear hd hN
  go_enter Try.func45, Try.ntmps45
  go_wp2
  go_loopw [6] (fun vi wr => ∃ (i : Nat) (e : Array Int), vi = .int .i64 i ∧ a + 1 ≤ i ∧ i ≤ b + 1 ∧ e.size = N ∧ Sr w g o e wr ∧ Sort.insOuter Sort.ltInt a b i e = Sort.insertionSort Sort.ltInt d a b) (fun vi _ => b + 1 - (numOf vi).toNat)
  case atStart => exact ⟨a + 1, d, by go_num, Nat.le_refl _, by omega, HN.out, H0.out, rfl⟩
  case round =>
    obtain ⟨i, e, rfl, hi1, hi2, he, hS, hO⟩ := hrel
    have HS := Lib.hid hS
    have HO := Lib.hid hO
    have HE := Lib.hid he
    clear hS hO he
    by_cases hlt : i < b
    · have q1 : decide ((i : Int) < (b : Int)) = true := decide_eq_true (by omega)
      go_wp2
      go_loopw [7] (fun vj wi => ∃ (j : Nat) (f : Array Int), vj = .int .i64 j ∧ a ≤ j ∧ j ≤ i ∧ f.size = N ∧ Sr w g o f wi ∧ Sort.insInner Sort.ltInt a j f = Sort.insInner Sort.ltInt a i e) (fun vj _ => (numOf vj).toNat)
      case atStart => exact ⟨i, e, rfl, by omega, Nat.le_refl _, HE.out, HS.out, rfl⟩
      case round =>
        obtain ⟨j, f, rfl, hj1, hj2, hf, hF, hI⟩ := hrel
        have HF := Lib.hid hF
        have HI := Lib.hid hI
        have Hf := Lib.hid hf
        have done : Hid ((a < j → Sort.ltInt f[j]! f[j - 1]! = false) → Sort.insOuter Sort.ltInt a b (i + 1) f = Sort.insertionSort Sort.ltInt d a b) := Lib.hid (fun h => by
          rw [← HO.out]
          conv => rhs; rw [Sort.insOuter, if_pos hlt]
          rw [← hI, ins_end _ _ _ _ h])
        clear hF hI hf
        by_cases hj : a < j
        · obtain ⟨k, rfl⟩ : ∃ k, j = k + 1 := ⟨j - 1, by omega⟩
          obtain ⟨x, hx⟩ : ∃ x, f[k + 1]! = x := ⟨_, rfl⟩
          obtain ⟨y, hy⟩ : ∃ y, f[k]! = y := ⟨_, rfl⟩
          have c1 := HF.out.cell (i := k + 1) (by have := Hf.out; omega)
          have c2 := HF.out.cell (i := k) (by have := Hf.out; omega)
          have f1 := HF.out.free (i := k + 1) (by have := Hf.out; omega)
          have f2 := HF.out.free (i := k) (by have := Hf.out; omega)
          have HW := Lib.hid (fun q => HF.out.swp (i := k + 1) (j := k) (by have := Hf.out; omega) (by have := Hf.out; omega) q)
          rw [hx] at c1 HW
          rw [hy] at c2 HW
          have Hx := Lib.hid hx
          have Hy := Lib.hid hy
          clear hx hy
          have q2 : decide ((a : Int) < ((k : Int) + 1)) = true := decide_eq_true (by omega)
          by_cases hl : Sort.ltInt x y = true
          · go_wp2
            go_quiet (first | (go_at_call 51; refine Calls.quiet_of_same (less_any _ _ _)))
            go_wp2
            go_region
            all_goals
              go_wp2
              go_roundw
              case rel => exact ⟨k, Sort.swp f (k + 1) k, rfl, by omega, by omega, by rw [swp_size]; exact Hf.out, HW.out (nq + 1), by rw [← HI.out, ins_step _ _ _ _ hj (by rw [Hx.out, Hy.out]; exact hl)]⟩
              case measure => simp [numOf]
          · have hl : Sort.ltInt x y = false := by simpa using hl
            go_wp2
            go_quiet (first | (go_at_call 51; refine Calls.quiet_of_same (less_any _ _ _)))
            go_wp2
            go_roundw
            case rel => exact ⟨i + 1, f, by go_num, by omega, by omega, Hf.out, HF.out.drewN nq, done.out (fun _ => by simp only [Nat.add_sub_cancel]; rw [Hx.out, Hy.out]; exact hl)⟩
            case measure => simp [numOf]; omega
        · have q2 : decide ((a : Int) < (j : Int)) = false := decide_eq_false (by omega)
          go_wp2
          go_quiet (fail)
          go_wp2
          go_roundw
          case rel => exact ⟨i + 1, f, by go_num, by omega, by omega, Hf.out, HF.out.drewN nq, done.out (fun h => absurd h hj)⟩
          case measure => simp [numOf]; omega
    · have q1 : decide ((i : Int) < (b : Int)) = false := decide_eq_false (by omega)
      go_wp2
      go_end0
      refine ⟨rfl, ?_⟩
      have h := HO.out
      rw [Sort.insOuter, if_neg hlt] at h
      rw [← h]
      exact HS.out
end Go.Proofs.Ytfeipeninmclkaa
