/-
  What is proved: slices.partitionOrdered at addresses by contract: where the pivot comes to lie, and the row, as the plain function says.
  Conditions: the part lies in the row, the pivot in the part.
-/
import Derived.Test.YtfeipeninmclkaaCsHeap2
import Derived.Deep.DeepCutAuto
namespace Go.Proofs.Ytfeipeninmclkaa
open Go.RowKit

section
variable {α : Type} [Inhabited α] (p : α → Bool) (d : Array α)
theorem scanUp_go (j i : Nat) (h : i ≤ j) (hp : p d[i]! = true) : Sort.scanUp p d j i = Sort.scanUp p d j (i + 1) := by
  conv => lhs; rw [Sort.scanUp]
  simp [h, hp]
theorem scanUp_no (j i : Nat) (h : i ≤ j → p d[i]! = false) : Sort.scanUp p d j i = i := by
  rw [Sort.scanUp]
  by_cases k : i ≤ j
  · simp [h k]
  · simp [k]
theorem scanDown_go (i m : Nat) (h : i ≤ m + 1) (hp : p d[m + 1]! = true) : Sort.scanDown p d i (m + 1) = Sort.scanDown p d i m := by
  conv => lhs; rw [Sort.scanDown]
  simp [h, hp]
theorem scanDown_no (i l : Nat) (h : i ≤ l → p d[l]! = false) (_ : 0 < l) : Sort.scanDown p d i l = l := by
  obtain ⟨m, rfl⟩ : ∃ m, l = m + 1 := ⟨l - 1, by omega⟩
  rw [Sort.scanDown]
  by_cases k : i ≤ m + 1
  · simp [h k]
  · simp [k]
theorem scanDown_out (i l : Nat) (h : ¬ i ≤ l) (_ : i ≤ l + 1) : Sort.scanDown p d i l = l := by
  cases l with
  | zero => rw [Sort.scanDown]
  | succ m => exact scanDown_no p d i (m + 1) (fun k => absurd k h) (by omega)
end
theorem Sr.again {w0 w : World} {g o : Nat} {d : Array Int} (h : Sr w0 g o d w) {i j : Nat} (_ : i < d.size) (hj : j < d.size) (v : Value) : ∃ t, (w.setCell ⟨g, o + i, none⟩ v).cell? ⟨g, o + j, none⟩ = some t := by
  obtain ⟨c, e, fr, hb, hc⟩ := Sort.cells_of_cell? (h.cell hj)
  rw [Sort.setCell_eq, Sort.cell?_mapBlock w g _ _ hb]
  exact ⟨_, Array.getElem?_eq_getElem (by simpa using (Array.getElem?_eq_some_iff.1 hc).1)⟩

theorem scans_apart {e : Array Int} {a i0 i j l : Nat} (hi : i ≤ j + 1) (hC : Sort.scanUp (fun x => Sort.ltInt x e[a]!) e j i0 = i) (hD : Sort.scanDown (fun x => !Sort.ltInt x e[a]!) e i j = l) (h : i ≤ l) (h0 : 0 < l) : i < l := by
  obtain ⟨_, _, _, u⟩ := Sort.scanUp_spec (fun x => Sort.ltInt x e[a]!) e j _ i0 rfl
  obtain ⟨v1, _, _, v⟩ := Sort.scanDown_spec (fun x => !Sort.ltInt x e[a]!) e i j
  rw [hC] at u
  rw [hD] at v v1
  have h1 := u (by omega)
  have h2 := v h h0
  by_cases k : i = l
  · rw [k] at h1
    (try simp only at h1)
    rw [h1] at h2
    cases h2
  · omega
def PartAt (g o a b p : Nat) (d : Array Int) (w : World) (e : Ending) (w' : World) : Prop :=
  ∃ (m : Nat) (q : Bool), e = .returned (.tuple #[.int .i64 m, .bool q]) ∧ m = (Sort.partition Sort.ltInt d a b p).1 ∧ Sr w g o (Sort.partition Sort.ltInt d a b p).2.2 w'
/-- The same, out of the loop's answer. -/
def PartOf (g o a : Nat) (R : Nat × Array Int) (w : World) (e : Ending) (w' : World) : Prop :=
  ∃ (m : Nat) (q : Bool), e = .returned (.tuple #[.int .i64 m, .bool q]) ∧ m = R.1 ∧ Sr w g o (Sort.swp R.2 R.1 a) w'
set_option maxRecDepth 100000 in
set_option maxHeartbeats 4000000 in
theorem partition_any (g o cap a b p N : Nat) (d : Array Int) (w : World) (hd : Sort.Holds (Value.int .u32) w g o d) (hN : d.size = N) (hap : a ≤ p) (hpb : p < b) (hb : b ≤ N) (hsz : N ≤ 1000000) :
    Calls Try.prog 53 #[.slice (some ⟨g, o, none⟩) N cap, .int .i64 a, .int .i64 b, .int .i64 p] w (PartAt g o a b p d w) := by
  obtain ⟨R, hR⟩ : ∃ R, Sort.partLoop Sort.ltInt a (a + 1) (b - 1) (Sort.swp d a p) = R := ⟨_, rfl⟩
  have hpost : PartAt g o a b p d w = PartOf g o a R w := by
    unfold PartAt PartOf
    rw [Sort.partition_fst, Sort.partition_arr, hR]
  rw [hpost]
  clear hpost
  have HR := Lib.hid hR
  have H0 := Lib.hid (Sr.start hd)
  have He := Lib.hid hN
  clear hd hN hR
  go_enter Try.func53, Try.ntmps53
  go_upto_region 1 with fail
  obtain ⟨x, hx⟩ : ∃ x, d[p]! = x := ⟨_, rfl⟩
  obtain ⟨y, hy⟩ : ∃ y, d[a]! = y := ⟨_, rfl⟩
  have c1 := H0.out.cell (i := p) (by have := He.out; omega)
  have c2 := H0.out.cell (i := a) (by have := He.out; omega)
  have f1 := H0.out.free (i := p) (by have := He.out; omega)
  have f2 := H0.out.free (i := a) (by have := He.out; omega)
  have HW := Lib.hid (fun q => H0.out.swp (i := a) (j := p) (by have := He.out; omega) (by have := He.out; omega) q)
  rw [hx] at c1 HW
  rw [hy] at c2 HW
  obtain ⟨z, c3⟩ := H0.out.again (i := a) (j := p) (by have := He.out; omega) (by have := He.out; omega) (.int .u32 x)
  have hsN : a < N := by have := He.out; omega
  have htN : p < N := by have := He.out; omega
  clear hx hy
  go_region
  clear c1 c2 f1 f2 c3
  have HS : Hid (Sr w g o (Sort.swp d a p) (World.drew ((w.setCell ⟨g, o + a, none⟩ (.int .u32 x)).setCell ⟨g, o + p, none⟩ (.int .u32 y)))) := Lib.hid (HW.out 1)
  generalize World.drew ((w.setCell ⟨g, o + a, none⟩ (.int .u32 x)).setCell ⟨g, o + p, none⟩ (.int .u32 y)) = W0 at HS ⊢
  clear HW H0
  replace He : Hid ((Sort.swp d a p).size = N) := Lib.hid (by rw [swp_size]; exact He.out)
  obtain ⟨i0, hi0⟩ : ∃ i0 : Nat, a + 1 = i0 := ⟨_, rfl⟩
  obtain ⟨j, hj⟩ : ∃ j : Nat, b - 1 = j := ⟨_, rfl⟩
  rw [hi0, hj] at HR
  have hiI : (a : Int) + 1 = (i0 : Int) := by omega
  have hjI : (b : Int) - 1 = (j : Int) := by omega
  have HI := Lib.hid hiI
  have HJ := Lib.hid hjI
  have hi1 : i0 ≤ j + 1 := by omega
  have ha1 : a + 1 ≤ i0 := by omega
  have hjN : j + 1 ≤ N := by omega
  clear hi0 hj hiI hjI
  generalize Sort.swp d a p = e at HS HR He
  go_upto_block 0 with fail
  rw [HI.out, HJ.out]
  go_cut [10] (fun s wx => ∃ i : Nat, s = .int .i64 i ∧ i0 ≤ i ∧ i ≤ j + 1 ∧ Sr w g o e wx ∧ Sort.scanUp (fun x => Sort.ltInt x e[a]!) e j i0 = i)
  · go_wp2
    go_loopw [10] (fun s wx => ∃ i : Nat, s = .int .i64 i ∧ i0 ≤ i ∧ i ≤ j + 1 ∧ Sr w g o e wx ∧ Sort.scanUp (fun x => Sort.ltInt x e[a]!) e j i0 = Sort.scanUp (fun x => Sort.ltInt x e[a]!) e j i) (fun s _ => j + 2 - (numOf s).toNat)
    case atStart => exact ⟨i0, rfl, Nat.le_refl _, hi1, HS.out, rfl⟩
    case round =>
      obtain ⟨i, rfl, k1, k2, hS2, hC⟩ := hrel
      have HS2 := Lib.hid hS2
      have HC := Lib.hid hC
      clear hS2 hC
      by_cases hij : i ≤ j
      · obtain ⟨x, hx⟩ : ∃ x, e[i]! = x := ⟨_, rfl⟩
        obtain ⟨y, hy⟩ : ∃ y, e[a]! = y := ⟨_, rfl⟩
        have c1 := HS2.out.cell (i := i) (by have := He.out; omega)
        have c2 := HS2.out.cell (i := a) (by have := He.out; omega)
        rw [hx] at c1
        rw [hy] at c2
        have hiN : i < N := by omega
        have haN : a < N := by omega
        have q2 : decide ((i : Int) ≤ (j : Int)) = true := decide_eq_true (by omega)
        have Hx := Lib.hid hx
        have Hy := Lib.hid hy
        clear hx hy
        by_cases hl : Sort.ltInt x y = true
        · go_wp2
          go_quiet (first | (go_at_call 51; refine Calls.quiet_of_same (less_any _ _ _)))
          go_wp2
          go_roundw
          case rel => exact ⟨i + 1, by go_num, by omega, by omega, HS2.out.drewN nq, by rw [HC.out, scanUp_go _ _ _ _ hij (by rw [Hx.out, Hy.out]; exact hl)]⟩
          case measure => simp [numOf]; omega
        · have hl : Sort.ltInt x y = false := by simpa using hl
          go_wp2
          go_quiet (first | (go_at_call 51; refine Calls.quiet_of_same (less_any _ _ _)))
          go_wp2
          go_meet
          case rel => exact ⟨i, rfl, k1, k2, HS2.out.drewN nq, by rw [HC.out, scanUp_no _ _ _ _ (fun _ => by rw [Hx.out, Hy.out]; exact hl)]⟩
      · have q2 : decide ((i : Int) ≤ (j : Int)) = false := decide_eq_false (by omega)
        go_wp2
        go_quiet (fail)
        go_wp2
        go_meet
        case rel => exact ⟨i, rfl, k1, k2, HS2.out.drewN nq, by rw [HC.out, scanUp_no _ _ _ _ (fun h => absurd h hij)]⟩
  case rest =>
    obtain ⟨i, rfl, k1, k2, hS2, hC⟩ := hcut
    have HS2 := Lib.hid hS2
    have HC := Lib.hid hC
    clear hS2 hC
    go_upto_block 2 with fail
    go_cut [11] (fun s wx => ∃ l : Nat, s = .int .i64 l ∧ l ≤ j ∧ i ≤ l + 1 ∧ Sr w g o e wx ∧ Sort.scanDown (fun x => !Sort.ltInt x e[a]!) e i j = l)
    · go_wp2
      go_loopw [11] (fun s wx => ∃ l : Nat, s = .int .i64 l ∧ l ≤ j ∧ i ≤ l + 1 ∧ Sr w g o e wx ∧ Sort.scanDown (fun x => !Sort.ltInt x e[a]!) e i j = Sort.scanDown (fun x => !Sort.ltInt x e[a]!) e i l) (fun s _ => (numOf s).toNat)
      case atStart => exact ⟨j, rfl, Nat.le_refl _, k2, HS2.out, rfl⟩
      case round =>
        obtain ⟨l, rfl, k3, k4, hS3, hD⟩ := hrel
        have HS3 := Lib.hid hS3
        have HD := Lib.hid hD
        clear hS3 hD
        by_cases hil : i ≤ l
        · obtain ⟨m, rfl⟩ : ∃ m, l = m + 1 := ⟨l - 1, by omega⟩
          obtain ⟨x, hx⟩ : ∃ x, e[m + 1]! = x := ⟨_, rfl⟩
          obtain ⟨y, hy⟩ : ∃ y, e[a]! = y := ⟨_, rfl⟩
          have c1 := HS3.out.cell (i := m + 1) (by have := He.out; omega)
          have c2 := HS3.out.cell (i := a) (by have := He.out; omega)
          rw [hx] at c1
          rw [hy] at c2
          have hmN : m + 1 < N := by omega
          have haN : a < N := by omega
          have q2 : decide ((i : Int) ≤ (m : Int) + 1) = true := decide_eq_true (by omega)
          have Hx := Lib.hid hx
          have Hy := Lib.hid hy
          clear hx hy
          by_cases hl : Sort.ltInt x y = true
          · go_wp2
            go_quiet (first | (go_at_call 51; refine Calls.quiet_of_same (less_any _ _ _)))
            go_wp2
            go_meet
            case rel => exact ⟨m + 1, rfl, k3, k4, HS3.out.drewN nq, by rw [HD.out, scanDown_no _ _ _ _ (fun _ => by rw [Hx.out, Hy.out, hl]; rfl) (by omega)]⟩
          · have hl : Sort.ltInt x y = false := by simpa using hl
            go_wp2
            go_quiet (first | (go_at_call 51; refine Calls.quiet_of_same (less_any _ _ _)))
            go_wp2
            go_roundw
            case rel => exact ⟨m, by go_num, by omega, by omega, HS3.out.drewN nq, by rw [HD.out, scanDown_go _ _ _ _ hil (by rw [Hx.out, Hy.out, hl]; rfl)]⟩
            case measure => (try simp [numOf]) <;> (try omega)
        · have q2 : decide ((i : Int) ≤ (l : Int)) = false := decide_eq_false (by omega)
          go_wp2
          go_quiet (fail)
          go_wp2
          go_meet
          case rel => exact ⟨l, rfl, k3, k4, HS3.out.drewN nq, by rw [HD.out, scanDown_out _ _ _ _ hil k4]⟩
    case rest =>
      obtain ⟨l, rfl, k3, k4, hS3, hD⟩ := hcut
      have HS3 := Lib.hid hS3
      have HD := Lib.hid hD
      clear hS3 hD
      by_cases hgt : l < i
      · obtain rfl : i = l + 1 := by omega
        have hR : R = (l, e) := by
          rw [← HR.out, Sort.partLoop_eq, HC.out, HD.out, if_pos (by omega)]
        subst hR
        go_upto_region 8 with fail
        obtain ⟨x, hx⟩ : ∃ x, e[a]! = x := ⟨_, rfl⟩
        obtain ⟨y, hy⟩ : ∃ y, e[l]! = y := ⟨_, rfl⟩
        have c1 := HS3.out.cell (i := a) (by have := He.out; omega)
        have c2 := HS3.out.cell (i := l) (by have := He.out; omega)
        have f1 := HS3.out.free (i := a) (by have := He.out; omega)
        have f2 := HS3.out.free (i := l) (by have := He.out; omega)
        have HW := Lib.hid (fun q => HS3.out.swp (i := l) (j := a) (by have := He.out; omega) (by have := He.out; omega) q)
        rw [hx] at c1 HW
        rw [hy] at c2 HW
        obtain ⟨z, c3⟩ := HS3.out.again (i := l) (j := a) (by have := He.out; omega) (by have := He.out; omega) (.int .u32 x)
        have hsN : l < N := by have := He.out; omega
        have htN : a < N := by have := He.out; omega
        clear hx hy
        go_region
        all_goals
          have HT : Hid (Sr w g o (Sort.swp e l a) (World.drew ((wc.setCell ⟨g, o + l, none⟩ (.int .u32 x)).setCell ⟨g, o + a, none⟩ (.int .u32 y)))) := Lib.hid (HW.out 1)
          go_wp2
          go_ret2
          exact ⟨l, true, rfl, rfl, HT.out⟩
      · have hR1 : R = Sort.partLoop Sort.ltInt a (i + 1) (l - 1) (Sort.swp e i l) := by
          rw [← HR.out, Sort.partLoop_eq, HC.out, HD.out, if_neg (by omega)]
        have hil : i < l := scans_apart k2 HC.out HD.out (by omega) (by omega)
        go_upto_region 10 with fail
        obtain ⟨x, hx⟩ : ∃ x, e[l]! = x := ⟨_, rfl⟩
        obtain ⟨y, hy⟩ : ∃ y, e[i]! = y := ⟨_, rfl⟩
        have c1 := HS3.out.cell (i := l) (by have := He.out; omega)
        have c2 := HS3.out.cell (i := i) (by have := He.out; omega)
        have f1 := HS3.out.free (i := l) (by have := He.out; omega)
        have f2 := HS3.out.free (i := i) (by have := He.out; omega)
        have HW := Lib.hid (fun q => HS3.out.swp (i := i) (j := l) (by have := He.out; omega) (by have := He.out; omega) q)
        rw [hx] at c1 HW
        rw [hy] at c2 HW
        obtain ⟨z, c3⟩ := HS3.out.again (i := i) (j := l) (by have := He.out; omega) (by have := He.out; omega) (.int .u32 x)
        have hsN : i < N := by have := He.out; omega
        have htN : l < N := by have := He.out; omega
        clear hx hy
        go_region
        clear c1 c2 c3 f1 f2
        have HS4 : Hid (Sr w g o (Sort.swp e i l) (World.drew ((wc.setCell ⟨g, o + i, none⟩ (.int .u32 x)).setCell ⟨g, o + l, none⟩ (.int .u32 y)))) := Lib.hid (HW.out 1)
        generalize World.drew ((wc.setCell ⟨g, o + i, none⟩ (.int .u32 x)).setCell ⟨g, o + l, none⟩ (.int .u32 y)) = W4 at HS4 ⊢
        have HE4 : Hid ((Sort.swp e i l).size = N) := Lib.hid (by rw [swp_size]; exact He.out)
        have HR4 := Lib.hid hR1.symm
        clear hR1
        go_wp2
        go_loopw [10, 11] (fun s t wx => ∃ (i j : Nat) (e : Array Int), s = .int .i64 i ∧ t = .int .i64 j ∧ a + 1 ≤ i ∧ i ≤ j + 1 ∧ j + 1 ≤ N ∧ e.size = N ∧ Sr w g o e wx ∧ Sort.partLoop Sort.ltInt a i j e = R) (fun s t _ => (numOf t + 1 - numOf s).toNat)
        case atStart => exact ⟨i + 1, l - 1, _, by go_num, by congr 1; omega, by omega, by omega, by omega, HE4.out, HS4.out, HR4.out⟩
        case round =>
          clear HS4 HE4 HR4 HW HS3 HD HC He HR HS2 HS
          clear hil hgt k1 k2 k3 k4 hi1 ha1 hjN HI HJ
          obtain ⟨i0, j, e, rfl, rfl, ha1, hi1, hjN, he, hS, hO⟩ := hrel
          have HS := Lib.hid hS
          have HR := Lib.hid hO
          have He := Lib.hid he
          clear hS hO he
          go_upto_block 6 with fail
          go_cut [10] (fun s wx => ∃ i : Nat, s = .int .i64 i ∧ i0 ≤ i ∧ i ≤ j + 1 ∧ Sr w g o e wx ∧ Sort.scanUp (fun x => Sort.ltInt x e[a]!) e j i0 = i)
          · go_wp2
            go_loopw [10] (fun s wx => ∃ i : Nat, s = .int .i64 i ∧ i0 ≤ i ∧ i ≤ j + 1 ∧ Sr w g o e wx ∧ Sort.scanUp (fun x => Sort.ltInt x e[a]!) e j i0 = Sort.scanUp (fun x => Sort.ltInt x e[a]!) e j i) (fun s _ => j + 2 - (numOf s).toNat)
            case atStart => exact ⟨i0, rfl, Nat.le_refl _, hi1, HS.out, rfl⟩
            case round =>
              obtain ⟨i, rfl, k1, k2, hS2, hC⟩ := hrel
              have HS2 := Lib.hid hS2
              have HC := Lib.hid hC
              clear hS2 hC
              by_cases hij : i ≤ j
              · obtain ⟨x, hx⟩ : ∃ x, e[i]! = x := ⟨_, rfl⟩
                obtain ⟨y, hy⟩ : ∃ y, e[a]! = y := ⟨_, rfl⟩
                have c1 := HS2.out.cell (i := i) (by have := He.out; omega)
                have c2 := HS2.out.cell (i := a) (by have := He.out; omega)
                rw [hx] at c1
                rw [hy] at c2
                have hiN : i < N := by omega
                have haN : a < N := by omega
                have q2 : decide ((i : Int) ≤ (j : Int)) = true := decide_eq_true (by omega)
                have Hx := Lib.hid hx
                have Hy := Lib.hid hy
                clear hx hy
                by_cases hl : Sort.ltInt x y = true
                · go_wp2
                  go_quiet (first | (go_at_call 51; refine Calls.quiet_of_same (less_any _ _ _)))
                  go_wp2
                  go_roundw
                  case rel => exact ⟨i + 1, by go_num, by omega, by omega, HS2.out.drewN nq, by rw [HC.out, scanUp_go _ _ _ _ hij (by rw [Hx.out, Hy.out]; exact hl)]⟩
                  case measure => simp [numOf]; omega
                · have hl : Sort.ltInt x y = false := by simpa using hl
                  go_wp2
                  go_quiet (first | (go_at_call 51; refine Calls.quiet_of_same (less_any _ _ _)))
                  go_wp2
                  go_meet
                  case rel => exact ⟨i, rfl, k1, k2, HS2.out.drewN nq, by rw [HC.out, scanUp_no _ _ _ _ (fun _ => by rw [Hx.out, Hy.out]; exact hl)]⟩
              · have q2 : decide ((i : Int) ≤ (j : Int)) = false := decide_eq_false (by omega)
                go_wp2
                go_quiet (fail)
                go_wp2
                go_meet
                case rel => exact ⟨i, rfl, k1, k2, HS2.out.drewN nq, by rw [HC.out, scanUp_no _ _ _ _ (fun h => absurd h hij)]⟩
          case rest =>
            obtain ⟨i, rfl, k1, k2, hS2, hC⟩ := hcut
            have HS2 := Lib.hid hS2
            have HC := Lib.hid hC
            clear hS2 hC
            go_upto_block 8 with fail
            go_cut [11] (fun s wx => ∃ l : Nat, s = .int .i64 l ∧ l ≤ j ∧ i ≤ l + 1 ∧ Sr w g o e wx ∧ Sort.scanDown (fun x => !Sort.ltInt x e[a]!) e i j = l)
            · go_wp2
              go_loopw [11] (fun s wx => ∃ l : Nat, s = .int .i64 l ∧ l ≤ j ∧ i ≤ l + 1 ∧ Sr w g o e wx ∧ Sort.scanDown (fun x => !Sort.ltInt x e[a]!) e i j = Sort.scanDown (fun x => !Sort.ltInt x e[a]!) e i l) (fun s _ => (numOf s).toNat)
              case atStart => exact ⟨j, rfl, Nat.le_refl _, k2, HS2.out, rfl⟩
              case round =>
                obtain ⟨l, rfl, k3, k4, hS3, hD⟩ := hrel
                have HS3 := Lib.hid hS3
                have HD := Lib.hid hD
                clear hS3 hD
                by_cases hil : i ≤ l
                · obtain ⟨m, rfl⟩ : ∃ m, l = m + 1 := ⟨l - 1, by omega⟩
                  obtain ⟨x, hx⟩ : ∃ x, e[m + 1]! = x := ⟨_, rfl⟩
                  obtain ⟨y, hy⟩ : ∃ y, e[a]! = y := ⟨_, rfl⟩
                  have c1 := HS3.out.cell (i := m + 1) (by have := He.out; omega)
                  have c2 := HS3.out.cell (i := a) (by have := He.out; omega)
                  rw [hx] at c1
                  rw [hy] at c2
                  have hmN : m + 1 < N := by omega
                  have haN : a < N := by omega
                  have q2 : decide ((i : Int) ≤ (m : Int) + 1) = true := decide_eq_true (by omega)
                  have Hx := Lib.hid hx
                  have Hy := Lib.hid hy
                  clear hx hy
                  by_cases hl : Sort.ltInt x y = true
                  · go_wp2
                    go_quiet (first | (go_at_call 51; refine Calls.quiet_of_same (less_any _ _ _)))
                    go_wp2
                    go_meet
                    case rel => exact ⟨m + 1, rfl, k3, k4, HS3.out.drewN nq, by rw [HD.out, scanDown_no _ _ _ _ (fun _ => by rw [Hx.out, Hy.out, hl]; rfl) (by omega)]⟩
                  · have hl : Sort.ltInt x y = false := by simpa using hl
                    go_wp2
                    go_quiet (first | (go_at_call 51; refine Calls.quiet_of_same (less_any _ _ _)))
                    go_wp2
                    go_roundw
                    case rel => exact ⟨m, by go_num, by omega, by omega, HS3.out.drewN nq, by rw [HD.out, scanDown_go _ _ _ _ hil (by rw [Hx.out, Hy.out, hl]; rfl)]⟩
                    case measure => (try simp [numOf]) <;> (try omega)
                · have q2 : decide ((i : Int) ≤ (l : Int)) = false := decide_eq_false (by omega)
                  go_wp2
                  go_quiet (fail)
                  go_wp2
                  go_meet
                  case rel => exact ⟨l, rfl, k3, k4, HS3.out.drewN nq, by rw [HD.out, scanDown_out _ _ _ _ hil k4]⟩
            case rest =>
              obtain ⟨l, rfl, k3, k4, hS3, hD⟩ := hcut
              have HS3 := Lib.hid hS3
              have HD := Lib.hid hD
              clear hS3 hD
              by_cases hgt : l < i
              · obtain rfl : i = l + 1 := by omega
                have hR : R = (l, e) := by
                  rw [← HR.out, Sort.partLoop_eq, HC.out, HD.out, if_pos (by omega)]
                subst hR
                go_upto_region 21 with fail
                obtain ⟨x, hx⟩ : ∃ x, e[a]! = x := ⟨_, rfl⟩
                obtain ⟨y, hy⟩ : ∃ y, e[l]! = y := ⟨_, rfl⟩
                have c1 := HS3.out.cell (i := a) (by have := He.out; omega)
                have c2 := HS3.out.cell (i := l) (by have := He.out; omega)
                have f1 := HS3.out.free (i := a) (by have := He.out; omega)
                have f2 := HS3.out.free (i := l) (by have := He.out; omega)
                have HW := Lib.hid (fun q => HS3.out.swp (i := l) (j := a) (by have := He.out; omega) (by have := He.out; omega) q)
                rw [hx] at c1 HW
                rw [hy] at c2 HW
                obtain ⟨z, c3⟩ := HS3.out.again (i := l) (j := a) (by have := He.out; omega) (by have := He.out; omega) (.int .u32 x)
                have hsN : l < N := by have := He.out; omega
                have htN : a < N := by have := He.out; omega
                clear hx hy
                go_region
                all_goals
                  have HT : Hid (Sr w g o (Sort.swp e l a) (World.drew ((wc.setCell ⟨g, o + l, none⟩ (.int .u32 x)).setCell ⟨g, o + a, none⟩ (.int .u32 y)))) := Lib.hid (HW.out 1)
                  go_wp2
                  go_ret2
                  exact ⟨l, false, rfl, rfl, HT.out⟩
              · have hil : i < l := scans_apart k2 HC.out HD.out (by omega) (by omega)
                have hR1 : Sort.partLoop Sort.ltInt a (i + 1) (l - 1) (Sort.swp e i l) = R := by
                  rw [← HR.out, Sort.partLoop_eq Sort.ltInt a i0 j e, HC.out, HD.out, if_neg (by omega)]
                have HR4 := Lib.hid hR1
                clear hR1
                go_upto_region 18 with fail
                obtain ⟨x, hx⟩ : ∃ x, e[l]! = x := ⟨_, rfl⟩
                obtain ⟨y, hy⟩ : ∃ y, e[i]! = y := ⟨_, rfl⟩
                have c1 := HS3.out.cell (i := l) (by have := He.out; omega)
                have c2 := HS3.out.cell (i := i) (by have := He.out; omega)
                have f1 := HS3.out.free (i := l) (by have := He.out; omega)
                have f2 := HS3.out.free (i := i) (by have := He.out; omega)
                have HW := Lib.hid (fun q => HS3.out.swp (i := i) (j := l) (by have := He.out; omega) (by have := He.out; omega) q)
                rw [hx] at c1 HW
                rw [hy] at c2 HW
                obtain ⟨z, c3⟩ := HS3.out.again (i := i) (j := l) (by have := He.out; omega) (by have := He.out; omega) (.int .u32 x)
                have hsN : i < N := by have := He.out; omega
                have htN : l < N := by have := He.out; omega
                clear hx hy
                go_region
                all_goals
                  have HT : Hid (Sr w g o (Sort.swp e i l) (World.drew ((wc.setCell ⟨g, o + i, none⟩ (.int .u32 x)).setCell ⟨g, o + l, none⟩ (.int .u32 y)))) := Lib.hid (HW.out 1)
                  go_wp2
                  go_roundw
                  case rel => exact ⟨i + 1, l - 1, _, by go_num, by congr 1; omega, by omega, by omega, by omega, by rw [swp_size]; exact He.out, HT.out, HR4.out⟩
                  case measure => (try simp [numOf]) <;> (try omega)
end Go.Proofs.Ytfeipeninmclkaa
