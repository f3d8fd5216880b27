/-
  What is proved: the law SumUpdates answers true for any bytes and numbers, and leaves all older memory as it was.
  Conditions: none but that the slice is of fewer than 2^63 elements, and the number fits its kind.
-/
import Derived.Test.YtphmgnlhnaobkaaSNoughts
namespace Go.Proofs.Ytphmgnlhnaobkaa
open Go.RowKit

theorem upd1 {S T o n : Nat} (h : T + o = S + n) (ho : o ≤ S) (ho2 : o ≤ 65535) (hT : T ≠ 0) : fold (fold S + (65535 - o) + n) = fold T := by
  have h1 := fold_mod S
  have h2 := fold_zero S
  exact fold_eq (by omega) (by omega)
theorem upd2 {S T o n : Nat} (h : T + o = S + n) (ho : o ≤ S) (ho2 : o ≤ 65535) (hn : n ≤ 65535) (hS : S ≠ 0) : fold (fold (fold S + (65535 - o) + n) + (65535 - n) + o) = fold S := by
  have h1 := fold_mod S
  have h2 := fold_zero S
  have h3 := fold_mod (fold S + (65535 - o) + n)
  have h4 := fold_zero (fold S + (65535 - o) + n)
  exact fold_eq (by omega) (by omega)
theorem unck (bs : List UInt8) : 65535 - ck bs = fold (wsum true bs) := by unfold ck; have := fold_le (wsum true bs); omega
theorem unfo (a : Nat) : 65535 - (65535 - fold a) = fold a := by have := fold_le a; omega

set_option maxRecDepth 100000 in
set_option maxHeartbeats 4000000 in
theorem updates_any (A0 : Option Addr) (c0 : Nat) (l0 : List UInt8) (n1 : Int) (n : Nat) (w : World) (_hc0 : c0 ≤ 9223372036854775807) (hr0 : Rd w (.slice A0 l0.length c0) l0) (hn : n ≤ 65535) :
    Calls Try.prog 5 #[.slice A0 l0.length c0, .int .i64 n1, .int .u16 (n : Int)] w fun e w' => e = .returned (.bool true) ∧ Below w.heap.size w w' := by
  have hlc0 := hr0.cap_le
  obtain ⟨K0, hk0⟩ : ∃ k, k = min l0.length 200 := ⟨_, rfl⟩
  have hm0 := fun W => min_run (P := Try.prog) #[3, 3] 3 (l0.length : Int) 200 (K0 : Int) (by omega) W
  have a1 : K0 ≤ l0.length := by omega
  have a2 : K0 ≤ 200 := by omega
  have H0 := Lib.hid (hr0.front a1)
  have hL0 : (l0.take K0).length = K0 := by rw [List.length_take]; omega
  clear hr0 hk0
  generalize l0.take K0 = al at *
  generalize l0.length = n0 at *
  have L0 := Lib.hid hL0
  clear hL0
  go_enter Try.func5, Try.ntmps5
  go_wp2_with fail
  refine (shown_any w).mono ?_
  rintro e w0 ⟨rfl, hb0⟩
  obtain ⟨g, gc, w1, hrun, hmine, -, -, -⟩ := (Mine.first hb0).append al _ (H0.out.old (hb0.alloc hb0.size _)) (by rw [L0.out]; simp; omega)
  rw [List.nil_append, L0.out] at hrun
  rw [List.nil_append] at hmine
  have ER := Lib.hid hrun
  have MN := Lib.hid hmine
  clear hb0 hrun hmine
  go_upto_if 23 with (at_builtin; refine wpList_append_eq rfl (.tmp 13) (.tmp 18) 32 rfl _ _ rfl rfl _ _ ER.out ?_)
  go_cut [0] (fun v wc => ∃ g c L, v = .slice (some ⟨g, 0, none⟩) L c ∧ L = (even al).length ∧ Mine w wc g c (even al))
  case first =>
    by_cases hpar : K0 % 2 = 1
    · have q : ((K0 : Int) % 2 == 1) = true := by rw [beq_iff_eq]; omega
      obtain ⟨g2, gc2, w2, hrun2, hmine2, -, -, -⟩ := (MN.out.alloc (bytesObj [0])).append [0] (.slice (some ⟨w1.heap.size, 0, none⟩) 1 1) (Rd.of_obj (bytesObj_new w1 [0]) (Nat.le_refl _)) (by rw [L0.out]; simp; omega)
      have he : al ++ [0] = even al := by unfold even; rw [L0.out, if_pos hpar]
      rw [he, L0.out] at hrun2
      rw [he] at hmine2
      have ER2 := Lib.hid hrun2
      have MN2 := Lib.hid hmine2
      clear hrun2 hmine2 ER MN
      go_wp2_with (at_builtin; refine wpList_append_eq rfl (.tmp 24) (.tmp 25) 32 rfl _ _ rfl rfl _ _ ER2.out ?_)
      go_meet
      case rel => exact ⟨_, _, _, rfl, rfl, MN2.out⟩
    · have q : ((K0 : Int) % 2 == 1) = false := by rw [beq_eq_false_iff_ne]; omega
      have he : al = even al := by unfold even; rw [L0.out, if_neg hpar]
      go_wp2_with fail
      go_meet
      case rel => exact ⟨_, _, _, rfl, by rw [← he, L0.out], by rw [← he]; exact MN.out⟩
  case rest =>
    obtain ⟨ga, ca, L, rfl, hL, hmine⟩ := hcut
    have hLe : L % 2 = 0 := by rw [hL]; exact even_len _
    have hL2 : L ≤ 200 := by rw [hL]; exact even_le (by rw [L0.out]; exact a2) (by omega)
    generalize even al = xs at *
    have HL := Lib.hid hL
    have M1 := Lib.hid hmine
    clear hmine ER MN hm0 hL
    obtain ⟨m, hm⟩ : ∃ m : Nat, bits BinOp.and IntKind.i64 n1 65535 = (m : Int) := ⟨(n1 % 65536).toNat, by rw [and_low_i64]; omega⟩
    by_cases hL0 : L = 0
    · have q : ((L : Int) == 0) = true := by rw [beq_iff_eq]; omega
      go_wp2_with fail
      go_ret
      exact ⟨rfl, M1.out.old⟩
    · have q : ((L : Int) == 0) = false := by rw [beq_eq_false_iff_ne]; omega
      obtain ⟨k, hkd⟩ : ∃ k, k = m % (L / 2) := ⟨_, rfl⟩
      have hk : k < L / 2 := by rw [hkd]; exact Nat.mod_lt _ (by omega)
      obtain ⟨i, hi⟩ : ∃ i, i = 2 * k := ⟨_, rfl⟩
      have hi1 : i + 1 < L := by omega
      have HW : Hid (wrap64 ((m : Int) % ((L : Int) / 2) * 2) = (i : Int)) := by
        show _ = _
        have e : (m : Int) % ((L : Int) / 2) = (k : Int) := by rw [hkd, Int.natCast_emod, Int.natCast_ediv]; rfl
        rw [e, hi]
        unfold wrap64
        omega
      have HI := Lib.hid hi
      clear hi hk hkd
      obtain ⟨x, hx⟩ : ∃ x, xs[i]? = some x := ⟨xs[i]'(by have := HL.out; omega), List.getElem?_eq_getElem _⟩
      obtain ⟨y, hy⟩ : ∃ y, xs[i + 1]? = some y := ⟨xs[i + 1]'(by have := HL.out; omega), List.getElem?_eq_getElem _⟩
      have hxl := x.toNat_lt
      have hyl := y.toNat_lt
      have HS : Hid (wsum true (put2 xs i n) + (x.toNat * 256 + y.toNat) = wsum true xs + n) := by
        show _ = _
        have e := HI.out
        subst e
        exact wsum_put2 xs k n x y hn hx hy
      have RD1 : Hid (Rd wc (.slice (some ⟨ga, 0, none⟩) L ca) xs) := by show Rd _ _ _; rw [HL.out]; exact M1.out.rd
      go_wp2_with fail
      rw [HW.out]
      refine (Sum_one rfl RD1.out (by have := HL.out; omega)).mono ?_
      rintro e w2 ⟨rfl, hw2⟩
      have M2 := Lib.hid (show Mine w w2 ga ca xs by subst hw2; exact M1.out.alloc _)
      clear hw2 M1 RD1 HW
      have k1 := M2.out.cell i x hx
      have k2 := M2.out.cell (i + 1) y hy
      go_wp2_with fail
      go_quiet (fail)
      have M3 := Lib.hid (M2.out.drewN nq)
      generalize w2.drewN nq = w3 at *
      clear M2 k1 k2
      obtain ⟨od, hod⟩ : ∃ od, od = x.toNat * 256 + y.toNat := ⟨_, rfl⟩
      have HO : Hid ((x.toNat : Int) * 256 + (y.toNat : Int) = (od : Int)) := by show _ = _; omega
      have hol : od ≤ 65535 := by omega
      have HT : Hid (wsum true (put2 xs i n) + od = wsum true xs + n ∧ od ≤ wsum true xs) := by
        refine ⟨by rw [hod]; exact HS.out, ?_⟩
        have e := HI.out
        subst e
        have := wsum_put2 xs k 0 x y (by omega) hx hy
        omega
      clear hod HS
      rw [HO.out]
      have RD3 : Hid (Rd w3 (.slice (some ⟨ga, 0, none⟩) L ca) xs) := by show Rd _ _ _; rw [HL.out]; exact M3.out.rd
      go_wp2_with fail
      refine (noughts_any _ xs w3 RD3.out (by have := HL.out; omega)).mono ?_
      rintro e w' ⟨rfl, rfl⟩
      have k1 := M3.out.cell i x hx
      have k2 := M3.out.cell (i + 1) y hy
      have k3 := M3.out.free i
      have k4 := M3.out.free (i + 1)
      go_wp2_with fail
      have M4 := Lib.hid (show Mine w ((w3.setCell ⟨ga, i, none⟩ (.int .u8 ((n : Int) / 256))).setCell ⟨ga, i + 1, none⟩ (.int .u8 ((n : Int) % 256))) ga ca (put2 xs i n) by
        have h := (M3.out.set i (UInt8.ofNat (n / 256))).set (i + 1) (UInt8.ofNat n)
        rw [show B8 (UInt8.ofNat (n / 256)) = .int .u8 ((n : Int) / 256) from B8_of (by rw [ofNat_lt]; omega), show B8 (UInt8.ofNat n) = .int .u8 ((n : Int) % 256) from B8_of (by rw [ofNat_lt]; omega)] at h
        exact h)
      clear k1 k2 k3 k4 M3 RD3
      generalize (w3.setCell ⟨ga, i, none⟩ (.int .u8 ((n : Int) / 256))).setCell ⟨ga, i + 1, none⟩ (.int .u8 ((n : Int) % 256)) = w4 at *
      have HY : Hid ((put2 xs i n).length = L) := by show _ = _; rw [put2_len, ← HL.out]
      generalize put2 xs i n = ys at *
      have RD4 : Hid (Rd w4 (.slice (some ⟨ga, 0, none⟩) L ca) ys) := by show Rd _ _ _; rw [← HY.out]; exact M4.out.rd
      refine (Update_any (ck xs) od n (ck_le _) hol hn w4).mono ?_
      rintro e w' ⟨he, rfl⟩
      rw [unck] at he
      have hcl := ck_le xs
      have U1 : Hid (wsum true ys ≠ 0 → 65535 - fold (fold (wsum true xs) + (65535 - od) + n) = ck ys) := fun h => by rw [upd1 HT.out.1 HT.out.2 hol h]; rfl
      have U2 : Hid (wsum true xs ≠ 0 → (65535 - fold (65535 - (65535 - fold (fold (wsum true xs) + (65535 - od) + n)) + (65535 - n) + od) : Nat) = ck xs) := fun h => by rw [unfo, upd2 HT.out.1 HT.out.2 hol hn h]; rfl
      obtain ⟨nw, hnw⟩ : ∃ nw, nw = 65535 - fold (fold (wsum true xs) + (65535 - od) + n) := ⟨_, rfl⟩
      have hnl : nw ≤ 65535 := by omega
      rw [← hnw] at he U1 U2
      subst he
      clear hnw
      go_wp2_with fail
      refine (noughts_any _ ys w4 RD4.out (by rw [HY.out]; omega)).mono ?_
      rintro e w' ⟨rfl, rfl⟩
      by_cases hT0 : wsum true ys = 0
      · rw [decide_eq_true hT0]
        by_cases hS0 : wsum true xs = 0
        · rw [decide_eq_true hS0]
          go_wp2_with fail
          go_ret
          exact ⟨rfl, M4.out.old⟩
        · rw [decide_eq_false hS0]
          go_wp2_with fail
          refine (Update_any nw n od hnl hn hol w4).mono ?_
          rintro e w' ⟨he, rfl⟩
          rw [U2.out hS0] at he
          subst he
          go_wp2_with fail
          go_ret
          exact ⟨rfl, M4.out.old⟩
      · rw [decide_eq_false hT0]
        go_wp2_with fail
        refine (Sum_one rfl RD4.out (by rw [HY.out]; omega)).mono ?_
        rintro e w5 ⟨he, hw5⟩
        have B5 := Lib.hid (show Below w.heap.size w w5 by subst hw5; exact M4.out.old.alloc M4.out.old.size _)
        rw [← U1.out hT0] at he
        subst he
        clear hw5
        by_cases hS0 : wsum true xs = 0
        · rw [decide_eq_true hS0]
          go_wp2_with fail
          go_ret
          exact ⟨rfl, B5.out⟩
        · rw [decide_eq_false hS0]
          go_wp2_with fail
          refine (Update_any nw n od hnl hn hol w5).mono ?_
          rintro e w' ⟨he, rfl⟩
          rw [U2.out hS0] at he
          subst he
          go_wp2_with fail
          go_ret
          exact ⟨rfl, B5.out⟩
end Go.Proofs.Ytphmgnlhnaobkaa
