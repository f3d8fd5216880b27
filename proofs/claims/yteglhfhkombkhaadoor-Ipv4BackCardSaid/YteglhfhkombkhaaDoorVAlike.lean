/-
  What is proved: 'alike' of the laws of layer 5 by contract: true of bytes that are others' first ones, also where a sum of FFFF stands for one of 0.
  Conditions: at least twelve bytes, fewer than 2^40.
-/
import Derived.Test.YteglhfhkombkhaaDoorVFld
import Derived.BigQuiet
import Derived.Deep.QuietTactic
namespace Go.Proofs.YteglhfhkombkhaaDoor
open Go.RowKit

/-- The cells of a row that is not empty. -/
theorem rd_cells {w : World} {A : Option Addr} {c : Nat} {bs : List UInt8} (h : Rd w (.slice A bs.length c) bs) (h0 : 0 < bs.length) :
    ∃ g o, A = some ⟨g, o, none⟩ ∧ ∀ n i u, bs[i]? = some u → (w.drewN n).cell? ⟨g, o + i, none⟩ = some (.int .u8 (u.toNat : Int)) := by
  obtain ⟨A', c', e, _, hr⟩ := h
  cases e
  obtain ⟨g, o, e, hi⟩ := hr h0
  exact ⟨g, o, e, fun n i u hu => hi i u hu⟩
theorem drewN_two' (w : World) (m n : Nat) : (w.drewN m).drewN n = w.drewN (m + n) := by unfold World.drewN; simp [Nat.add_assoc]
set_option maxRecDepth 100000 in
set_option maxHeartbeats 4000000 in
theorem alike_ff (A B : Option Addr) (c d : Nat) (u v : List UInt8) (w : World) (ha : Rd w (.slice A u.length c) u) (hb : Rd w (.slice B v.length d) v) (hl : u.length ≤ v.length) (h12 : 12 ≤ u.length) (hv : v.length ≤ 1099511627776)
    (u10 : u[10]? = some 0) (u11 : u[11]? = some 0) (v10 : v[10]? = some 255) (v11 : v[11]? = some 255) (he : ∀ i, i < u.length → i ≠ 10 → i ≠ 11 → ∃ x, u[i]? = some x ∧ v[i]? = some x) :
    Calls Tryd.prog 20 #[.slice A u.length c, .slice B v.length d] w fun e w' => e = .returned (.bool true) ∧ Below w.heap.size w w' := by
  obtain ⟨g, o, rfl, hu⟩ := rd_cells ha (by omega)
  obtain ⟨g', o', rfl, hw⟩ := rd_cells hb (by omega)
  have U10 := Lib.hid u10
  have U11 := Lib.hid u11
  have V10 := Lib.hid v10
  have V11 := Lib.hid v11
  have HE : Hid (∀ i, i < u.length → i ≠ 10 → i ≠ 11 → ∃ x, u[i]? = some x ∧ v[i]? = some x) := he
  clear u10 u11 v10 v11 he
  obtain ⟨L, hL⟩ : ∃ L, u.length = L := ⟨_, rfl⟩
  obtain ⟨L', hL'⟩ : ∃ L, v.length = L := ⟨_, rfl⟩
  rw [hL] at h12 hl ⊢
  rw [hL'] at hl hv ⊢
  have HU := Lib.hid hu
  have HW := Lib.hid hw
  have HL := Lib.hid hL
  have HL' := Lib.hid hL'
  have m1 : (12 : Int) ≤ (L : Int) := by omega
  have m2 : (L : Int) ≤ (L' : Int) := by omega
  have m3 : (L' : Int) ≤ 1099511627776 := by omega
  clear ha hb hu hw hL hL' h12 hl hv
  go_enter Tryd.func20, Tryd.ntmps20
  go_wp2_with fail
  go_loopw [5] (fun i wr => ∃ k n : Nat, k ≤ L ∧ i = .int .i64 (k : Int) ∧ wr = w.drewN n) (fun i _ => L - (intOf i).toNat)
  case atStart => exact ⟨0, 0, by omega, rfl, rfl⟩
  case round =>
    obtain ⟨k, n, hk, rfl, hwr⟩ := hrel
    have HU1 : Hid (∀ i x, u[i]? = some x → wr.cell? ⟨g, o + i, none⟩ = some (.int .u8 (x.toNat : Int))) := fun i x h => by rw [hwr]; exact HU.out n i x h
    have HW1 : Hid (∀ i x, v[i]? = some x → wr.cell? ⟨g', o' + i, none⟩ = some (.int .u8 (x.toNat : Int))) := fun i x h => by rw [hwr]; exact HW.out n i x h
    have HR1 := Lib.hid hwr
    clear hwr
    by_cases hlt : k < L
    · have p1 : (k : Int) < (L : Int) := by omega
      have p2 : (k : Int) < (L' : Int) := by omega
      have p3 : (10 : Int) < (L : Int) := by omega
      have p4 : (11 : Int) < (L : Int) := by omega
      have p5 : (10 : Int) < (L' : Int) := by omega
      have p6 : (11 : Int) < (L' : Int) := by omega
      by_cases h10 : k = 10
      · subst h10
        have c1 := HU1.out 10 0 U10.out
        have c2 := HU1.out 11 0 U11.out
        have c3 := HW1.out 10 255 V10.out
        have c4 := HW1.out 11 255 V11.out
        rw [show ((0 : UInt8).toNat : Int) = 0 from rfl] at c1 c2
        rw [show ((255 : UInt8).toNat : Int) = 255 from rfl] at c3 c4
        go_upto_region 5 with fail
        go_quiet (fail)
        go_wp2_with fail
        refine ⟨⟨10 + 1, n + nq, by omega, by go_num, by rw [HR1.out]; exact drewN_two' w n nq⟩, by simp [intOf]; omega⟩
      · by_cases h11 : k = 11
        · subst h11
          have c1 := HU1.out 10 0 U10.out
          have c2 := HU1.out 11 0 U11.out
          have c3 := HW1.out 10 255 V10.out
          have c4 := HW1.out 11 255 V11.out
          rw [show ((0 : UInt8).toNat : Int) = 0 from rfl] at c1 c2
          rw [show ((255 : UInt8).toNat : Int) = 255 from rfl] at c3 c4
          go_upto_region 5 with fail
          go_quiet (fail)
          go_wp2_with fail
          refine ⟨⟨11 + 1, n + nq, by omega, by go_num, by rw [HR1.out]; exact drewN_two' w n nq⟩, by simp [intOf]; omega⟩
        · have q1 : ((k : Int) == 10) = false := by simp; omega
          have q2 : ((k : Int) == 11) = false := by simp; omega
          obtain ⟨x, hx, hy⟩ := HE.out k (by rw [HL.out]; omega) h10 h11
          have c1 := HU1.out k x hx
          have c2 := HW1.out k x hy
          clear hx hy
          go_upto_region 5 with fail
          go_quiet (fail)
          go_wp2_with fail
          refine ⟨⟨k + 1, n + nq, by omega, by go_num, by rw [HR1.out]; exact drewN_two' w n nq⟩, by simp [intOf]; omega⟩
    · have p1 : ¬ (k : Int) < (L : Int) := by omega
      have p2 : decide ((k : Int) < (L : Int)) = false := decide_eq_false p1
      go_wp2_with fail
      go_ret
      exact ⟨rfl, by rw [HR1.out]; exact dr_below (Below.refl _ _) n⟩
set_option maxRecDepth 100000 in
set_option maxHeartbeats 4000000 in
theorem alike_eq (A B : Option Addr) (c d : Nat) (u v : List UInt8) (w : World) (ha : Rd w (.slice A u.length c) u) (hb : Rd w (.slice B v.length d) v) (hl : u.length ≤ v.length) (h12 : 12 ≤ u.length) (hv : v.length ≤ 1099511627776)
    (he : ∀ i, i < u.length → ∃ x, u[i]? = some x ∧ v[i]? = some x) :
    Calls Tryd.prog 20 #[.slice A u.length c, .slice B v.length d] w fun e w' => e = .returned (.bool true) ∧ Below w.heap.size w w' := by
  obtain ⟨g, o, rfl, hu⟩ := rd_cells ha (by omega)
  obtain ⟨g', o', rfl, hw⟩ := rd_cells hb (by omega)
  obtain ⟨x10, u10, v10⟩ := he 10 (by omega)
  obtain ⟨x11, u11, v11⟩ := he 11 (by omega)
  have U10 := Lib.hid u10
  have U11 := Lib.hid u11
  have V10 := Lib.hid v10
  have V11 := Lib.hid v11
  have HE : Hid (∀ i, i < u.length → ∃ x, u[i]? = some x ∧ v[i]? = some x) := he
  clear u10 u11 v10 v11 he
  obtain ⟨L, hL⟩ : ∃ L, u.length = L := ⟨_, rfl⟩
  obtain ⟨L', hL'⟩ : ∃ L, v.length = L := ⟨_, rfl⟩
  rw [hL] at h12 hl ⊢
  rw [hL'] at hl hv ⊢
  have HU := Lib.hid hu
  have HW := Lib.hid hw
  have HL := Lib.hid hL
  have HL' := Lib.hid hL'
  have m1 : (12 : Int) ≤ (L : Int) := by omega
  have m2 : (L : Int) ≤ (L' : Int) := by omega
  have m3 : (L' : Int) ≤ 1099511627776 := by omega
  clear ha hb hu hw hL hL' h12 hl hv
  go_enter Tryd.func20, Tryd.ntmps20
  go_wp2_with fail
  go_loopw [5] (fun i wr => ∃ k n : Nat, k ≤ L ∧ i = .int .i64 (k : Int) ∧ wr = w.drewN n) (fun i _ => L - (intOf i).toNat)
  case atStart => exact ⟨0, 0, by omega, rfl, rfl⟩
  case round =>
    obtain ⟨k, n, hk, rfl, hwr⟩ := hrel
    have HU1 : Hid (∀ i x, u[i]? = some x → wr.cell? ⟨g, o + i, none⟩ = some (.int .u8 (x.toNat : Int))) := fun i x h => by rw [hwr]; exact HU.out n i x h
    have HW1 : Hid (∀ i x, v[i]? = some x → wr.cell? ⟨g', o' + i, none⟩ = some (.int .u8 (x.toNat : Int))) := fun i x h => by rw [hwr]; exact HW.out n i x h
    have HR1 := Lib.hid hwr
    clear hwr
    by_cases hlt : k < L
    · have p1 : (k : Int) < (L : Int) := by omega
      have p2 : (k : Int) < (L' : Int) := by omega
      have p3 : (10 : Int) < (L : Int) := by omega
      have p4 : (11 : Int) < (L : Int) := by omega
      have p5 : (10 : Int) < (L' : Int) := by omega
      have p6 : (11 : Int) < (L' : Int) := by omega
      by_cases h10 : k = 10
      · subst h10
        have c1 := HU1.out 10 x10 U10.out
        have c2 := HU1.out 11 x11 U11.out
        have c3 := HW1.out 10 x10 V10.out
        have c4 := HW1.out 11 x11 V11.out
        generalize x10.toNat = y at c1 c3
        generalize x11.toNat = z at c2 c4
        by_cases hy0 : y = 0
        · subst hy0
          by_cases hz0 : z = 0
          · subst hz0
            go_upto_region 5 with fail
            go_quiet (fail)
            go_wp2_with fail
            refine ⟨⟨10 + 1, n + nq, by omega, by go_num, by rw [HR1.out]; exact drewN_two' w n nq⟩, by simp [intOf]; omega⟩
          · have e1 : ((z : Int) == 0) = false := by simp; omega
            go_upto_region 5 with fail
            go_quiet (fail)
            go_wp2_with fail
            refine ⟨⟨10 + 1, n + nq, by omega, by go_num, by rw [HR1.out]; exact drewN_two' w n nq⟩, by simp [intOf]; omega⟩
        · have e0 : ((y : Int) == 0) = false := by simp; omega
          by_cases hy1 : y = 255
          · subst hy1
            by_cases hz0 : z = 255
            · subst hz0
              go_upto_region 5 with fail
              go_quiet (fail)
              go_wp2_with fail
              refine ⟨⟨10 + 1, n + nq, by omega, by go_num, by rw [HR1.out]; exact drewN_two' w n nq⟩, by simp [intOf]; omega⟩
            · have e1 : ((z : Int) == 255) = false := by simp; omega
              go_upto_region 5 with fail
              go_quiet (fail)
              go_wp2_with fail
              refine ⟨⟨10 + 1, n + nq, by omega, by go_num, by rw [HR1.out]; exact drewN_two' w n nq⟩, by simp [intOf]; omega⟩
          · have e2 : ((y : Int) == 255) = false := by simp; omega
            go_upto_region 5 with fail
            go_quiet (fail)
            go_wp2_with fail
            refine ⟨⟨10 + 1, n + nq, by omega, by go_num, by rw [HR1.out]; exact drewN_two' w n nq⟩, by simp [intOf]; omega⟩
      · by_cases h11 : k = 11
        · subst h11
          have c1 := HU1.out 10 x10 U10.out
          have c2 := HU1.out 11 x11 U11.out
          have c3 := HW1.out 10 x10 V10.out
          have c4 := HW1.out 11 x11 V11.out
          generalize x10.toNat = y at c1 c3
          generalize x11.toNat = z at c2 c4
          by_cases hy0 : y = 0
          · subst hy0
            by_cases hz0 : z = 0
            · subst hz0
              go_upto_region 5 with fail
              go_quiet (fail)
              go_wp2_with fail
              refine ⟨⟨11 + 1, n + nq, by omega, by go_num, by rw [HR1.out]; exact drewN_two' w n nq⟩, by simp [intOf]; omega⟩
            · have e1 : ((z : Int) == 0) = false := by simp; omega
              go_upto_region 5 with fail
              go_quiet (fail)
              go_wp2_with fail
              refine ⟨⟨11 + 1, n + nq, by omega, by go_num, by rw [HR1.out]; exact drewN_two' w n nq⟩, by simp [intOf]; omega⟩
          · have e0 : ((y : Int) == 0) = false := by simp; omega
            by_cases hy1 : y = 255
            · subst hy1
              by_cases hz0 : z = 255
              · subst hz0
                go_upto_region 5 with fail
                go_quiet (fail)
                go_wp2_with fail
                refine ⟨⟨11 + 1, n + nq, by omega, by go_num, by rw [HR1.out]; exact drewN_two' w n nq⟩, by simp [intOf]; omega⟩
              · have e1 : ((z : Int) == 255) = false := by simp; omega
                go_upto_region 5 with fail
                go_quiet (fail)
                go_wp2_with fail
                refine ⟨⟨11 + 1, n + nq, by omega, by go_num, by rw [HR1.out]; exact drewN_two' w n nq⟩, by simp [intOf]; omega⟩
            · have e2 : ((y : Int) == 255) = false := by simp; omega
              go_upto_region 5 with fail
              go_quiet (fail)
              go_wp2_with fail
              refine ⟨⟨11 + 1, n + nq, by omega, by go_num, by rw [HR1.out]; exact drewN_two' w n nq⟩, by simp [intOf]; omega⟩
        · have q1 : ((k : Int) == 10) = false := by simp; omega
          have q2 : ((k : Int) == 11) = false := by simp; omega
          obtain ⟨x, hx, hy⟩ := HE.out k (by rw [HL.out]; omega)
          have c1 := HU1.out k x hx
          have c2 := HW1.out k x hy
          clear hx hy
          go_upto_region 5 with fail
          go_quiet (fail)
          go_wp2_with fail
          refine ⟨⟨k + 1, n + nq, by omega, by go_num, by rw [HR1.out]; exact drewN_two' w n nq⟩, by simp [intOf]; omega⟩
    · have p1 : ¬ (k : Int) < (L : Int) := by omega
      have p2 : decide ((k : Int) < (L : Int)) = false := decide_eq_false p1
      go_wp2_with fail
      go_ret
      exact ⟨rfl, by rw [HR1.out]; exact dr_below (Below.refl _ _) n⟩
end Go.Proofs.YteglhfhkombkhaaDoor
