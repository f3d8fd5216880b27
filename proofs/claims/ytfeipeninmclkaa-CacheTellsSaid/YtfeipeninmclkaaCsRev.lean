/-
  What is proved: slices.reverseRangeOrdered and partialInsertionSortOrdered at addresses by contract.
  Conditions: the part lies in the row; for the second one it has fewer than fifty addresses.
-/
import Derived.Test.YtfeipeninmclkaaCsPart
namespace Go.Proofs.Ytfeipeninmclkaa
open Go.RowKit

/-- Its places are permuted among themselves. -/
def RevAt (g o a b : Nat) (d : Array Int) (w : World) (e : Ending) (w' : World) : Prop := ∃ d', e = .returned (.tuple #[]) ∧ Sort.PermIn a b d d' ∧ Sr w g o d' w'
set_option maxRecDepth 100000 in
set_option maxHeartbeats 2000000 in
theorem reverse_any (g o cap a b N : Nat) (d : Array Int) (w : World) (hd : Sort.Holds (Value.int .u32) w g o d) (hN : d.size = N) (hab : a < b) (hb : b ≤ N) (hsz : N ≤ 1000000) :
    Calls Try.prog 49 #[.slice (some ⟨g, o, none⟩) N cap, .int .i64 a, .int .i64 b] w (RevAt g o a b d w) := by
  have H0 := Lib.hid (Sr.start hd)
  have HN := Lib.hid hN
  clear hd hN
  go_enter Try.func49, Try.ntmps49
  go_wp2
  go_loopw [6, 7] (fun s t wr => ∃ (i j : Nat) (e : Array Int), s = .int .i64 i ∧ t = .int .i64 j ∧ a ≤ i ∧ j < b ∧ e.size = N ∧ Sort.PermIn a b d e ∧ Sr w g o e wr) (fun s t _ => (numOf t + 1 - numOf s).toNat)
  case atStart => exact ⟨a, b - 1, d, rfl, by congr 1; omega, Nat.le_refl _, by omega, HN.out, Sort.permIn_refl _ _ _, H0.out⟩
  case round =>
    obtain ⟨i, j, e, rfl, rfl, hi, hj, he, hP, hS⟩ := hrel
    have HS := Lib.hid hS
    have HP := Lib.hid hP
    have He := Lib.hid he
    clear hS hP he
    by_cases hij : i < j
    · have q1 : decide ((i : Int) < (j : Int)) = true := decide_eq_true (by omega)
      go_upto_region 3 with fail
      obtain ⟨x, hx⟩ : ∃ x, e[j]! = x := ⟨_, rfl⟩
      obtain ⟨y, hy⟩ : ∃ y, e[i]! = y := ⟨_, rfl⟩
      have c1 := HS.out.cell (i := j) (by have := He.out; omega)
      have c2 := HS.out.cell (i := i) (by have := He.out; omega)
      have f1 := HS.out.free (i := j) (by have := He.out; omega)
      have f2 := HS.out.free (i := i) (by have := He.out; omega)
      have HW := Lib.hid (fun q => HS.out.swp (i := i) (j := j) (by have := He.out; omega) (by have := He.out; omega) q)
      rw [hx] at c1 HW
      rw [hy] at c2 HW
      obtain ⟨z, c3⟩ := HS.out.again (i := i) (j := j) (by have := He.out; omega) (by have := He.out; omega) (.int .u32 x)
      have hsN : i < N := by have := He.out; omega
      have htN : j < N := by have := He.out; omega
      clear hx hy
      go_region
      all_goals
        have HT : Hid (Sr w g o (Sort.swp e i j) (World.drew ((wr.setCell ⟨g, o + i, none⟩ (.int .u32 x)).setCell ⟨g, o + j, none⟩ (.int .u32 y)))) := Lib.hid (HW.out 1)
        go_wp2
        go_roundw
        case rel => exact ⟨i + 1, j - 1, _, by go_num, by congr 1; omega, by omega, by omega, by rw [swp_size]; exact He.out, Sort.permIn_trans _ _ _ _ _ HP.out (Sort.swp_permIn _ _ _ _ _ hi (by omega) (by omega) hj (by have := He.out; omega)), HT.out⟩
        case measure => (try simp [numOf]) <;> (try omega)
    · have q1 : decide ((i : Int) < (j : Int)) = false := decide_eq_false (by omega)
      go_wp2
      go_end0
      exact ⟨e, rfl, HP.out, HS.out⟩

theorem sorted_steps {d : Array Int} {a b : Nat} (h : ∀ k, a < k → k < b → Sort.ltInt d[k]! d[k - 1]! = false) : Sort.SortedIn Sort.ltInt a b d := by
  intro i j hi hij hj
  induction hn : j - i using Nat.strongRecOn generalizing j with
  | _ n ih =>
    have h1 := h j (by omega) hj
    by_cases k : j - 1 = i
    · rw [← k]; exact h1
    · have h2 := ih (j - 1 - i) (by omega) (j - 1) (by omega) (by omega) rfl
      simp only [Sort.ltInt, decide_eq_false_iff_not] at h1 h2 ⊢
      omega
def PartialAt (a b : Nat) (d : Array Int) (w : World) (e : Ending) (w' : World) : Prop := ∃ ok : Bool, e = .returned (.bool ok) ∧ (ok = true → Sort.SortedIn Sort.ltInt a b d) ∧ ∃ n, w' = w.drewN n
set_option maxRecDepth 100000 in
set_option maxHeartbeats 2000000 in
theorem partial_any (g o cap a b N : Nat) (d : Array Int) (w : World) (hd : Sort.Holds (Value.int .u32) w g o d) (hN : d.size = N) (hab : a < b) (hb : b ≤ N) (hsz : N ≤ 49) :
    Calls Try.prog 50 #[.slice (some ⟨g, o, none⟩) N cap, .int .i64 a, .int .i64 b] w (PartialAt a b d w) := by
  have H0 := Lib.hid (Sr.start hd)
  have HN := Lib.hid hN
  clear hd hN
  go_enter Try.func50, Try.ntmps50
  go_wp2
  have q5 : decide ((b : Int) - (a : Int) < 50) = true := decide_eq_true (by omega)
  go_loopw [7, 8] (fun s t wr => s = .int .i64 ((a : Int) + 1) ∧ t = .int .i64 0 ∧ w = wr) (fun _ _ _ => 0)
  case atStart => exact ⟨rfl, rfl, rfl⟩
  case round =>
    obtain ⟨rfl, rfl, rfl⟩ := hrel
    go_wp2
    go_loopw [7] (fun s wi => ∃ (i : Nat) (n : Nat), s = .int .i64 i ∧ a + 1 ≤ i ∧ i ≤ b ∧ wi = w.drewN n ∧ ∀ k, a < k → k < i → Sort.ltInt d[k]! d[k - 1]! = false) (fun s _ => b - (numOf s).toNat)
    case atStart => exact ⟨a + 1, 0, by go_num, Nat.le_refl _, by omega, rfl, fun k h1 h2 => by omega⟩
    case round =>
      obtain ⟨i, n, rfl, hi1, hi2, hw, hK⟩ := hrel
      have HK := Lib.hid hK
      have HW := Lib.hid hw
      have HS : Hid (Sr w g o d wr) := Lib.hid (by rw [hw]; exact H0.out.drewN n)
      clear hK hw
      by_cases hlt : i < b
      · obtain ⟨k, rfl⟩ : ∃ k, i = k + 1 := ⟨i - 1, by omega⟩
        have q1 : decide ((k : Int) + 1 < (b : Int)) = true := decide_eq_true (by omega)
        have q6 : (((k : Int) + 1) == (b : Int)) = false := by simp; omega
        obtain ⟨x, hx⟩ : ∃ x, d[k + 1]! = x := ⟨_, rfl⟩
        obtain ⟨y, hy⟩ : ∃ y, d[k]! = y := ⟨_, rfl⟩
        have c1 := HS.out.cell (i := k + 1) (by have := HN.out; omega)
        have c2 := HS.out.cell (i := k) (by have := HN.out; omega)
        rw [hx] at c1
        rw [hy] at c2
        have hkN : k + 1 < N := by omega
        have Hx := Lib.hid hx
        have Hy := Lib.hid hy
        clear hx hy
        by_cases hl : Sort.ltInt x y = true
        · go_wp2
          go_quiet (first | (go_at_call 51; refine Calls.quiet_of_same (less_any _ _ _)))
          go_wp2
          go_ret
          exact ⟨false, rfl, (fun h => by cases h), n + nq, by rw [HW.out]; simp [World.drewN, Nat.add_assoc]⟩
        · have hl : Sort.ltInt x y = false := by simpa using hl
          go_wp2
          go_quiet (first | (go_at_call 51; refine Calls.quiet_of_same (less_any _ _ _)))
          go_wp2
          go_roundw
          case rel => exact ⟨k + 2, n + nq, by go_num, by omega, by omega, by rw [HW.out]; simp [World.drewN, Nat.add_assoc], fun t h1 h2 => by
            by_cases e : t = k + 1
            · rw [e]; simp only [Nat.add_sub_cancel]; rw [Hx.out, Hy.out]; exact hl
            · exact HK.out t h1 (by omega)⟩
          case measure => (try simp [numOf]) <;> (try omega)
      · have q1 : decide ((i : Int) < (b : Int)) = false := decide_eq_false (by omega)
        obtain rfl : b = i := by omega
        go_wp2
        go_quiet (fail)
        go_wp2
        go_ret
        exact ⟨true, rfl, (fun _ => sorted_steps HK.out), n + nq, by rw [HW.out]; simp [World.drewN, Nat.add_assoc]⟩
end Go.Proofs.Ytfeipeninmclkaa
