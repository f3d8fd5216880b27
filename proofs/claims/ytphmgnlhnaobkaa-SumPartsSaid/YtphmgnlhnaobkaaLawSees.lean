/-
  What is proved: the law SumSees answers true for any bytes and numbers, and leaves all older memory as it was.
  Conditions: none but that the slice is of fewer than 2^63 elements, and the number fits its kind.
-/
import Derived.Test.YtphmgnlhnaobkaaSNoughts
namespace Go.Proofs.Ytphmgnlhnaobkaa
open Go.RowKit

theorem wsum_own {xs : List UInt8} (h : xs.length % 2 = 0) : wsum true (xs ++ be2 (ck xs)) = wsum true xs + ck xs := by
  have hc := ck_le xs
  rw [wsum_append]
  unfold par
  rw [if_pos h]
  simp only [be2, wsum, ofNat_lt]
  omega
theorem sees {xs zs : List UInt8} {o n : Nat} (h : xs.length % 2 = 0) (hz : wsum true zs + o = wsum true (xs ++ be2 (ck xs)) + n) (ho : o ≤ 65535) (hn : n ≤ 65535) (h1 : n ≠ o) (h2 : ¬ (n = 0 ∧ o = 65535)) (h3 : ¬ (n = 65535 ∧ o = 0)) : ck zs ≠ 0 := by
  rw [wsum_own h] at hz
  have e1 := fold_mod (wsum true xs)
  have e2 := fold_le (wsum true xs)
  have e3 := fold_mod (wsum true zs)
  have e4 := fold_le (wsum true zs)
  have e5 : ck xs = 65535 - fold (wsum true xs) := rfl
  have e6 : ck zs = 65535 - fold (wsum true zs) := rfl
  generalize wsum true xs = S at *
  generalize wsum true zs = Z at *
  generalize fold S = fS at *
  generalize fold Z = fZ at *
  rw [e5] at hz
  rw [e6]
  omega

set_option maxRecDepth 100000 in
set_option maxHeartbeats 4000000 in
theorem sees_any (A0 : Option Addr) (c0 : Nat) (l0 : List UInt8) (n1 : Int) (n : Nat) (w : World) (_hc0 : c0 ≤ 9223372036854775807) (hr0 : Rd w (.slice A0 l0.length c0) l0) (hn : n ≤ 65535) :
    Calls Try.prog 6 #[.slice A0 l0.length c0, .int .i64 n1, .int .u16 (n : Int)] w fun e w' => e = .returned (.bool true) ∧ Below w.heap.size w w' := by
  have hlc0 := hr0.cap_le
  obtain ⟨K0, hk0⟩ : ∃ k, k = min l0.length 200 := ⟨_, rfl⟩
  have hm0 := fun W => min_run (P := Try.prog) #[3, 3] 3 (l0.length : Int) 200 (K0 : Int) (by omega) W
  have a1 : K0 ≤ l0.length := by omega
  have a2 : K0 ≤ 200 := by omega
  have H0 := Lib.hid (hr0.front a1)
  have hL0 : (l0.take K0).length = K0 := by rw [List.length_take]; omega
  clear hr0 hk0
  generalize l0.take K0 = al at *
  generalize l0.length = n0 at *
  have L0 := Lib.hid hL0
  clear hL0
  go_enter Try.func6, Try.ntmps6
  go_wp2_with fail
  refine (shown_any w).mono ?_
  rintro e w0 ⟨rfl, hb0⟩
  obtain ⟨g, gc, w1, hrun, hmine, -, -, -⟩ := (Mine.first hb0).append al _ (H0.out.old (hb0.alloc hb0.size _)) (by rw [L0.out]; simp; omega)
  rw [List.nil_append, L0.out] at hrun
  rw [List.nil_append] at hmine
  have ER := Lib.hid hrun
  have MN := Lib.hid hmine
  clear hb0 hrun hmine
  go_upto_if 22 with (at_builtin; refine wpList_append_eq rfl (.tmp 12) (.tmp 17) 32 rfl _ _ rfl rfl _ _ ER.out ?_)
  go_cut [0] (fun v wc => ∃ g c L, v = .slice (some ⟨g, 0, none⟩) L c ∧ L = (even al).length ∧ Mine w wc g c (even al))
  case first =>
    by_cases hpar : K0 % 2 = 1
    · have q : ((K0 : Int) % 2 == 1) = true := by rw [beq_iff_eq]; omega
      obtain ⟨g2, gc2, w2, hrun2, hmine2, -, -, -⟩ := (MN.out.alloc (bytesObj [0])).append [0] (.slice (some ⟨w1.heap.size, 0, none⟩) 1 1) (Rd.of_obj (bytesObj_new w1 [0]) (Nat.le_refl _)) (by rw [L0.out]; simp; omega)
      have he : al ++ [0] = even al := by unfold even; rw [L0.out, if_pos hpar]
      rw [he, L0.out] at hrun2
      rw [he] at hmine2
      have ER2 := Lib.hid hrun2
      have MN2 := Lib.hid hmine2
      clear hrun2 hmine2 ER MN
      go_wp2_with (at_builtin; refine wpList_append_eq rfl (.tmp 23) (.tmp 24) 32 rfl _ _ rfl rfl _ _ ER2.out ?_)
      go_meet
      case rel => exact ⟨_, _, _, rfl, rfl, MN2.out⟩
    · have q : ((K0 : Int) % 2 == 1) = false := by rw [beq_eq_false_iff_ne]; omega
      have he : al = even al := by unfold even; rw [L0.out, if_neg hpar]
      go_wp2_with fail
      go_meet
      case rel => exact ⟨_, _, _, rfl, by rw [← he, L0.out], by rw [← he]; exact MN.out⟩
  case rest =>
    obtain ⟨ga, ca, L, rfl, hL, hmine⟩ := hcut
    have hLe : L % 2 = 0 := by rw [hL]; exact even_len _
    have hL2 : L ≤ 200 := by rw [hL]; exact even_le (by rw [L0.out]; exact a2) (by omega)
    generalize even al = xs at *
    have HL := Lib.hid hL
    have M1 := Lib.hid hmine
    clear hmine ER MN hm0 hL
    obtain ⟨m, hm⟩ : ∃ m : Nat, bits BinOp.and IntKind.i64 n1 65535 = (m : Int) := ⟨(n1 % 65536).toNat, by rw [and_low_i64]; omega⟩
    have RD1 : Hid (Rd wc (.slice (some ⟨ga, 0, none⟩) L ca) xs) := by show Rd _ _ _; rw [HL.out]; exact M1.out.rd
    go_wp2_with fail
    refine (Sum_one rfl RD1.out (by have := HL.out; omega)).mono ?_
    rintro e w2 ⟨rfl, hw2⟩
    have M2 := Lib.hid (show Mine w w2 ga ca xs by subst hw2; exact M1.out.alloc _)
    clear hw2 M1 RD1
    have hsl := ck_le xs
    have HE : Hid (xs.length % 2 = 0) := by show _ = _; rw [← HL.out]; exact hLe
    obtain ⟨gb, cb, w3, hrun, hmine, -, -, -⟩ := (M2.out.alloc (bytesObj (be2 (ck xs)))).append (be2 (ck xs)) (.slice (some ⟨w2.heap.size, 0, none⟩) 2 2) (Rd.of_obj (bytesObj_new w2 _) (Nat.le_refl _)) (by have := HL.out; simp [be2]; omega)
    obtain ⟨ys, hys⟩ : ∃ ys, ys = xs ++ be2 (ck xs) := ⟨_, rfl⟩
    rw [← hys, ← HL.out] at hrun
    rw [← hys] at hmine
    have hyl : ys.length = L + 2 := by rw [hys, List.length_append, ← HL.out]; rfl
    rw [hyl] at hrun
    have HB : bytesObj (be2 (ck xs)) = .cells #[.int .u8 ((ck xs : Int) / 256), .int .u8 ((ck xs : Int) % 256)] 5 := by
      unfold bytesObj be2
      simp only [List.map_cons, List.map_nil]
      rw [show B8 (UInt8.ofNat (ck xs / 256)) = .int .u8 ((ck xs : Int) / 256) from B8_of (by rw [ofNat_lt]; omega), show B8 (UInt8.ofNat (ck xs)) = .int .u8 ((ck xs : Int) % 256) from B8_of (by rw [ofNat_lt]; omega)]
    rw [HB] at hrun
    have HY := Lib.hid hys
    have YL := Lib.hid hyl
    have ER := Lib.hid hrun
    have M3 := Lib.hid hmine
    clear hys hrun hmine HB M2 hyl
    generalize hs : ck xs = s at *
    have HSS := Lib.hid hs
    clear hs
    obtain ⟨k, hkd⟩ : ∃ k, k = m % ((L + 2) / 2) := ⟨_, rfl⟩
    have hk : k < (L + 2) / 2 := by rw [hkd]; exact Nat.mod_lt _ (by omega)
    obtain ⟨i, hi⟩ : ∃ i, i = 2 * k := ⟨_, rfl⟩
    have hi1 : i + 1 < L + 2 := by omega
    have HI := Lib.hid hi
    obtain ⟨x, hx⟩ : ∃ x, ys[i]? = some x := ⟨ys[i]'(by have := YL.out; omega), List.getElem?_eq_getElem _⟩
    obtain ⟨y, hy⟩ : ∃ y, ys[i + 1]? = some y := ⟨ys[i + 1]'(by have := YL.out; omega), List.getElem?_eq_getElem _⟩
    have hxl := x.toNat_lt
    have hyl := y.toNat_lt
    have HS : Hid (wsum true (put2 ys i n) + (x.toNat * 256 + y.toNat) = wsum true ys + n) := by
      show _ = _
      have e := HI.out
      subst e
      exact wsum_put2 ys k n x y hn hx hy
    have k1 := M3.out.cell i x hx
    have k2 := M3.out.cell (i + 1) y hy
    obtain ⟨L2, hL22⟩ : ∃ L2 : Nat, L2 = L + 2 := ⟨_, rfl⟩
    rw [← hL22] at hk hkd ER hi1 YL
    have hL3 : L2 ≤ 202 := by omega
    have hL4 : 2 ≤ L2 := by omega
    have HW : Hid (wrap64 ((m : Int) % ((L2 : Int) / 2) * 2) = (i : Int)) := by
      show _ = _
      have e : (m : Int) % ((L2 : Int) / 2) = (k : Int) := by rw [hkd, Int.natCast_emod, Int.natCast_ediv]; rfl
      rw [e, hi]
      unfold wrap64
      omega
    clear hi hk hkd hL22
    go_wp2_with (at_builtin; refine wpList_append_eq rfl (.tmp 29) (.tmp 36) 32 rfl _ _ rfl rfl _ _ ER.out ?_)
    rw [HW.out]
    go_quiet (fail)
    have M4 := Lib.hid (M3.out.drewN nq)
    generalize w3.drewN nq = w4 at *
    clear M3 k1 k2 ER HW
    obtain ⟨od, hod⟩ : ∃ od, od = x.toNat * 256 + y.toNat := ⟨_, rfl⟩
    have HO : Hid ((x.toNat : Int) * 256 + (y.toNat : Int) = (od : Int)) := by show _ = _; omega
    have hol : od ≤ 65535 := by omega
    have HT : Hid (n ≠ od → ¬ (n = 0 ∧ od = 65535) → ¬ (n = 65535 ∧ od = 0) → ck (put2 ys i n) ≠ 0) := fun h1 h2 h3 => by
      refine sees HE.out ?_ hol hn h1 h2 h3
      rw [HSS.out, ← HY.out, hod]
      exact HS.out
    clear hod HS
    rw [HO.out]
    have k1 := M4.out.cell i x hx
    have k2 := M4.out.cell (i + 1) y hy
    have k3 := M4.out.free i
    have k4 := M4.out.free (i + 1)
    have M5 := Lib.hid (show Mine w ((w4.setCell ⟨gb, i, none⟩ (.int .u8 ((n : Int) / 256))).setCell ⟨gb, i + 1, none⟩ (.int .u8 ((n : Int) % 256))) gb cb (put2 ys i n) by
      have h := (M4.out.set i (UInt8.ofNat (n / 256))).set (i + 1) (UInt8.ofNat n)
      rw [show B8 (UInt8.ofNat (n / 256)) = .int .u8 ((n : Int) / 256) from B8_of (by rw [ofNat_lt]; omega), show B8 (UInt8.ofNat n) = .int .u8 ((n : Int) % 256) from B8_of (by rw [ofNat_lt]; omega)] at h
      exact h)
    have HZ : Hid ((put2 ys i n).length = L2) := by show _ = _; rw [put2_len, YL.out]
    generalize put2 ys i n = zs at *
    have RD5 : Hid (Rd ((w4.setCell ⟨gb, i, none⟩ (.int .u8 ((n : Int) / 256))).setCell ⟨gb, i + 1, none⟩ (.int .u8 ((n : Int) % 256))) (.slice (some ⟨gb, 0, none⟩) L2 cb) zs) := by show Rd _ _ _; rw [← HZ.out]; exact M5.out.rd
    clear M4
    go_upto_region 11 with fail
    generalize (w4.setCell ⟨gb, i, none⟩ (.int .u8 ((n : Int) / 256))).setCell ⟨gb, i + 1, none⟩ (.int .u8 ((n : Int) % 256)) = w5 at *
    clear k1 k2 k3 k4
    by_cases h1 : n = od
    · have q1 : ((n : Int) == (od : Int)) = true := by rw [beq_iff_eq]; omega
      go_wp2_with fail
      go_ret
      exact ⟨rfl, M5.out.old⟩
    · have q1 : ((n : Int) == (od : Int)) = false := by rw [beq_eq_false_iff_ne]; omega
      have rest : Hid (¬ (n = 0 ∧ od = 65535) → ¬ (n = 65535 ∧ od = 0) → decide (ck zs = 0) = false) := fun h2 h3 => decide_eq_false (HT.out h1 h2 h3)
      by_cases h2 : n = 0
      · have q2 : ((n : Int) == 0) = true := by rw [beq_iff_eq]; omega
        have q4 : ((n : Int) == 65535) = false := by rw [beq_eq_false_iff_ne]; omega
        by_cases h3 : od = 65535
        · have q3 : ((od : Int) == 65535) = true := by rw [beq_iff_eq]; omega
          go_wp2_with fail
          go_ret
          exact ⟨rfl, M5.out.old⟩
        · have q3 : ((od : Int) == 65535) = false := by rw [beq_eq_false_iff_ne]; omega
          have hd := rest.out (by omega) (by omega)
          go_wp2_with fail
          refine (Valid_one rfl RD5.out (by rw [HZ.out]; omega)).mono ?_
          rintro e w6 ⟨he, hw6⟩
          rw [hd] at he
          subst he
          have B6 := Lib.hid (show Below w.heap.size w w6 by subst hw6; exact M5.out.old.alloc M5.out.old.size _)
          clear hw6
          go_wp2_with fail
          go_ret
          exact ⟨rfl, B6.out⟩
      · have q2 : ((n : Int) == 0) = false := by rw [beq_eq_false_iff_ne]; omega
        by_cases h3 : n = 65535
        · have q3 : ((n : Int) == 65535) = true := by rw [beq_iff_eq]; omega
          by_cases h4 : od = 0
          · have q4 : ((od : Int) == 0) = true := by rw [beq_iff_eq]; omega
            go_wp2_with fail
            go_ret
            exact ⟨rfl, M5.out.old⟩
          · have q4 : ((od : Int) == 0) = false := by rw [beq_eq_false_iff_ne]; omega
            have hd := rest.out (by omega) (by omega)
            go_wp2_with fail
            refine (Valid_one rfl RD5.out (by rw [HZ.out]; omega)).mono ?_
            rintro e w6 ⟨he, hw6⟩
            rw [hd] at he
            subst he
            have B6 := Lib.hid (show Below w.heap.size w w6 by subst hw6; exact M5.out.old.alloc M5.out.old.size _)
            clear hw6
            go_wp2_with fail
            go_ret
            exact ⟨rfl, B6.out⟩
        · have q3 : ((n : Int) == 65535) = false := by rw [beq_eq_false_iff_ne]; omega
          have hd := rest.out (by omega) (by omega)
          go_wp2_with fail
          refine (Valid_one rfl RD5.out (by rw [HZ.out]; omega)).mono ?_
          rintro e w6 ⟨he, hw6⟩
          rw [hd] at he
          subst he
          have B6 := Lib.hid (show Below w.heap.size w w6 by subst hw6; exact M5.out.old.alloc M5.out.old.size _)
          clear hw6
          go_wp2_with fail
          go_ret
          exact ⟨rfl, B6.out⟩
end Go.Proofs.Ytphmgnlhnaobkaa
