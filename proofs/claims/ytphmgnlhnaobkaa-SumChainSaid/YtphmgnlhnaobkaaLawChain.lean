/-
  What is proved: the law SumChain answers true for any bytes, places and numbers, and leaves all older memory as it was.
  Conditions: none but that the slices are of fewer than 2^63 elements.
-/
import Derived.Test.YtphmgnlhnaobkaaLawUpdates
import Derived.Test.YtphmgnlhnaobkaaSLift
namespace Go.Proofs.Ytphmgnlhnaobkaa
open Go.RowKit

theorem wsum_end {ts : List UInt8} (h : ts.length % 2 = 0) : wsum true (ts ++ [0, 1]) = wsum true ts + 1 := by
  rw [wsum_append]
  unfold par
  rw [if_pos h]
  rfl
theorem put2_end {ts : List UInt8} {i n : Nat} (h : i + 1 < ts.length) : put2 (ts ++ [0, 1]) i n = put2 ts i n ++ [0, 1] := by
  unfold put2
  rw [List.set_append_left _ _ (by omega), List.set_append_left _ _ (by rw [List.length_set]; omega)]

set_option maxRecDepth 100000 in
set_option maxHeartbeats 4000000 in
theorem chain_any (A0 : Option Addr) (c0 : Nat) (l0 : List UInt8) (A1 : Option Addr) (c1 : Nat) (l1 : List UInt8) (A2 : Option Addr) (M2 c2 : Nat) (w : World) (_hc0 : c0 ≤ 9223372036854775807) (hr0 : Rd w (.slice A0 l0.length c0) l0) (_hc1 : c1 ≤ 9223372036854775807) (hr1 : Rd w (.slice A1 l1.length c1) l1) (_hm2 : M2 ≤ c2) (_hc2 : c2 ≤ 9223372036854775807) (hr2 : WordsAt w A2 M2) :
    Calls Try.prog 9 #[.slice A0 l0.length c0, .slice A1 l1.length c1, .slice A2 M2 c2] w fun e w' => e = .returned (.bool true) ∧ Below w.heap.size w w' := by
  have hlc0 := hr0.cap_le
  obtain ⟨K0, hk0⟩ : ∃ k, k = min l0.length 100 := ⟨_, rfl⟩
  have hm0 := fun W => min_run (P := Try.prog) #[3, 3] 3 (l0.length : Int) 100 (K0 : Int) (by omega) W
  have a1 : K0 ≤ l0.length := by omega
  have a2 : K0 ≤ 100 := by omega
  have H0 := Lib.hid (hr0.front a1)
  have hL0 : (l0.take K0).length = K0 := by rw [List.length_take]; omega
  clear hr0 hk0
  generalize l0.take K0 = al at *
  generalize l0.length = n0 at *
  have L0 := Lib.hid hL0
  clear hL0
  have hlc1 := hr1.cap_le
  have R1 : Hid (∀ k, k < l1.length → ∃ g o u, A1 = some ⟨g, o, none⟩ ∧ w.cell? ⟨g, o + k, none⟩ = some (.int .u8 ((UInt8.toNat u : Nat) : Int))) := by
    intro k hk
    obtain ⟨A', c', e, h, hcell⟩ := hr1
    cases e
    obtain ⟨g, o, e, hi⟩ := hcell (by omega)
    exact ⟨g, o, l1[k], e, hi k _ (List.getElem?_eq_getElem hk)⟩
  have R2 := Lib.hid hr2
  clear hr1 hr2
  generalize l1.length = M1 at *
  go_enter Try.func9, Try.ntmps9
  go_wp2_with fail
  refine (shown_any w).mono ?_
  rintro e w0 ⟨rfl, hb0⟩
  obtain ⟨g, gc, w1, hrun, hmine, -, -, -⟩ := (Mine.first hb0).append al _ (H0.out.old (hb0.alloc hb0.size _)) (by rw [L0.out]; simp; omega)
  rw [List.nil_append, L0.out] at hrun
  rw [List.nil_append] at hmine
  have ER := Lib.hid hrun
  have MN := Lib.hid hmine
  clear hb0 hrun hmine
  go_upto_if 23 with (at_builtin; refine wpList_append_eq rfl (.tmp 13) (.tmp 18) 32 rfl _ _ rfl rfl _ _ ER.out ?_)
  go_cut [0] (fun v wc => ∃ g c L, v = .slice (some ⟨g, 0, none⟩) L c ∧ L = (even al).length ∧ Mine w wc g c (even al))
  case first =>
    by_cases hpar : K0 % 2 = 1
    · have q : ((K0 : Int) % 2 == 1) = true := by rw [beq_iff_eq]; omega
      obtain ⟨g2, gc2, w2, hrun2, hmine2, -, -, -⟩ := (MN.out.alloc (bytesObj [0])).append [0] (.slice (some ⟨w1.heap.size, 0, none⟩) 1 1) (Rd.of_obj (bytesObj_new w1 [0]) (Nat.le_refl _)) (by rw [L0.out]; simp; omega)
      have he : al ++ [0] = even al := by unfold even; rw [L0.out, if_pos hpar]
      rw [he, L0.out] at hrun2
      rw [he] at hmine2
      have ER2 := Lib.hid hrun2
      have MN2 := Lib.hid hmine2
      clear hrun2 hmine2 ER MN
      go_wp2_with (at_builtin; refine wpList_append_eq rfl (.tmp 24) (.tmp 25) 32 rfl _ _ rfl rfl _ _ ER2.out ?_)
      go_meet
      case rel => exact ⟨_, _, _, rfl, rfl, MN2.out⟩
    · have q : ((K0 : Int) % 2 == 1) = false := by rw [beq_eq_false_iff_ne]; omega
      have he : al = even al := by unfold even; rw [L0.out, if_neg hpar]
      go_wp2_with fail
      go_meet
      case rel => exact ⟨_, _, _, rfl, by rw [← he, L0.out], by rw [← he]; exact MN.out⟩
  case rest =>
    obtain ⟨ga, ca, L, rfl, hL, hmine⟩ := hcut
    have hLe : L % 2 = 0 := by rw [hL]; exact even_len _
    have hL2 : L ≤ 100 := by rw [hL]; exact even_le (by rw [L0.out]; exact a2) (by omega)
    generalize even al = xs at *
    have HL := Lib.hid hL
    have MM := Lib.hid hmine
    clear hmine ER MN hm0 hL
    have HE : Hid (xs.length % 2 = 0) := by show _ = _; rw [← HL.out]; exact hLe
    obtain ⟨gb, cb, w3, hrun, hmine, -, -, -⟩ := (MM.out.alloc (bytesObj [0, 1])).append [0, 1] (.slice (some ⟨wc.heap.size, 0, none⟩) 2 2) (Rd.of_obj (bytesObj_new wc _) (Nat.le_refl _)) (by have := HL.out; simp; omega)
    have hyl : (xs ++ [0, 1]).length = L + 2 := by rw [List.length_append, ← HL.out]; rfl
    rw [hyl, ← HL.out] at hrun
    have ER := Lib.hid hrun
    have M3 := Lib.hid hmine
    have RD3 : Hid (Rd w3 (.slice (some ⟨gb, 0, none⟩) (L + 2) cb) (xs ++ [0, 1])) := by show Rd _ _ _; rw [← hyl]; exact hmine.rd
    clear hrun hmine MM hyl
    obtain ⟨L2, hL22⟩ : ∃ L2 : Nat, L2 = L + 2 := ⟨_, rfl⟩
    rw [← hL22] at ER RD3
    have hL3 : L2 ≤ 102 := by omega
    have hL4 : 2 ≤ L2 := by omega
    have H22 := Lib.hid hL22
    clear hL22
    go_wp2_with (at_builtin; refine wpList_append_eq rfl (.tmp 27) (.tmp 28) 32 rfl _ _ rfl rfl _ _ ER.out ?_)
    refine (Sum_one rfl RD3.out (by have := HL.out; simp; omega)).mono ?_
    rintro e w4 ⟨rfl, hw4⟩
    have M4 := Lib.hid (show Mine w w4 gb cb (xs ++ [0, 1]) by subst hw4; exact M3.out.alloc _)
    clear hw4 M3 RD3 ER
    go_wp2_with fail
    go_loopw [8, 9] (fun s i wr => ∃ (k : Nat) (ts : List UInt8), k ≤ 20 ∧ i = .int .i64 (k : Int) ∧ s = .int .u16 ((ck (ts ++ [0, 1]) : Nat) : Int) ∧ ts.length = L ∧ Mine w wr gb cb (ts ++ [0, 1])) (fun _ i _ => 20 - (intOf i).toNat)
    case atStart => exact ⟨0, xs, by omega, rfl, rfl, HL.out.symm, M4.out⟩
    case round =>
      obtain ⟨k, ts, hk, rfl, rfl, htl, hmine⟩ := hrel
      have M5 := Lib.hid hmine
      have TL := Lib.hid htl
      have TE : Hid (ts.length % 2 = 0) := by show _ = _; rw [htl]; exact hLe
      have hcl := ck_le (ts ++ [0, 1])
      have RD5 : Hid (Rd wr (.slice (some ⟨gb, 0, none⟩) L2 cb) (ts ++ [0, 1])) := by
        show Rd _ _ _
        have h := hmine.rd
        have e : (ts ++ ([0, 1] : List UInt8)).length = L2 := by rw [H22.out, ← htl, List.length_append]; rfl
        rwa [e] at h
      clear hmine M4 htl
      by_cases hlt : k < M1 ∧ k < M2 ∧ k < 20
      · obtain ⟨q1, q2, q3⟩ := hlt
        by_cases hL0 : L2 = 2
        · have q : ((L2 : Int) == 2) = true := by rw [beq_iff_eq]; omega
          clear hL0
          go_wp2_with fail
          refine (Sum_one rfl RD5.out (by have := TL.out; simp; omega)).mono ?_
          rintro e w6 ⟨rfl, hw6⟩
          have B6 := Lib.hid (show Below w.heap.size w w6 by subst hw6; exact M5.out.old.alloc M5.out.old.size _)
          clear hw6
          go_wp2_with fail
          go_ret
          exact ⟨rfl, B6.out⟩
        · have q : ((L2 : Int) == 2) = false := by rw [beq_eq_false_iff_ne]; omega
          have hL5 : 4 ≤ L2 := by have := H22.out; omega
          obtain ⟨g1, o1, u, rfl, kc1⟩ := R1.out k q1
          obtain ⟨g2, o2, n, rfl, kc2, hn⟩ := R2.out k q2
          have kd1 : wr.cell? ⟨g1, o1 + k, none⟩ = some (.int .u8 (u.toNat : Int)) := (M5.out.old.cell (World.block_lt_of_cell? w _ kc1)).trans kc1
          have hul := u.toNat_lt
          have hg2 : g2 < w.heap.size := World.block_lt_of_cell? w _ kc2
          have hgb : w.heap.size ≤ gb := M5.out.new
          have KC := Lib.hid kc2
          clear kc1 kc2 RD5
          obtain ⟨kk, hkd⟩ : ∃ kk, kk = u.toNat % (L2 / 2 - 1) := ⟨_, rfl⟩
          have hkk : kk < L2 / 2 - 1 := by rw [hkd]; exact Nat.mod_lt _ (by omega)
          obtain ⟨i, hi⟩ : ∃ i, i = 2 * kk := ⟨_, rfl⟩
          have hi1 : i + 1 < L2 := by omega
          have hi2 : Hid (i + 1 < ts.length) := by show _ < _; rw [TL.out]; have := H22.out; omega
          have HW : Hid (wrap64 ((u.toNat : Int) % ((L2 : Int) / 2 - 1) * 2) = (i : Int)) := by
            show _ = _
            have e0 : (L2 : Int) / 2 - 1 = ((L2 / 2 - 1 : Nat) : Int) := by omega
            have e : (u.toNat : Int) % ((L2 : Int) / 2 - 1) = (kk : Int) := by rw [hkd, e0, Int.natCast_emod]
            rw [e, hi]
            unfold wrap64
            omega
          have HI := Lib.hid hi
          clear hi hkk hkd
          obtain ⟨x, hx⟩ : ∃ x, ts[i]? = some x := ⟨ts[i]'(by have := hi2.out; omega), List.getElem?_eq_getElem _⟩
          obtain ⟨y, hy⟩ : ∃ y, ts[i + 1]? = some y := ⟨ts[i + 1]'(by have := hi2.out; omega), List.getElem?_eq_getElem _⟩
          have hx' : (ts ++ [0, 1])[i]? = some x := by rw [List.getElem?_append_left (by have := hi2.out; omega)]; exact hx
          have hy' : (ts ++ [0, 1])[i + 1]? = some y := by rw [List.getElem?_append_left (by have := hi2.out; omega)]; exact hy
          have hxl := x.toNat_lt
          have hyl := y.toNat_lt
          obtain ⟨od, hod⟩ : ∃ od, od = x.toNat * 256 + y.toNat := ⟨_, rfl⟩
          have HO : Hid ((x.toNat : Int) * 256 + (y.toNat : Int) = (od : Int)) := by show _ = _; omega
          have hol : od ≤ 65535 := by omega
          have HT : Hid (65535 - fold (65535 - ck (ts ++ [0, 1]) + (65535 - od) + n) = ck (put2 ts i n ++ [0, 1])) := by
            show _ = _
            have e := HI.out
            subst e
            have h1 := wsum_put2 ts kk n x y hn hx hy
            have h2 := wsum_put2 ts kk 0 x y (by omega) hx hy
            rw [unck, upd1 (T := wsum true (put2 ts (2 * kk) n ++ [0, 1])) _ _ hol _]
            · rfl
            · rw [wsum_end TE.out, wsum_end (by rw [put2_len]; exact TE.out)]; omega
            · rw [wsum_end TE.out]; omega
            · rw [wsum_end (by rw [put2_len]; exact TE.out)]; omega
          clear hod
          go_wp2_with fail
          rw [HW.out]
          clear HW
          have k1 := M5.out.cell i x hx'
          have k2 := M5.out.cell (i + 1) y hy'
          go_quiet (fail)
          have M6 := Lib.hid (M5.out.drewN nq)
          generalize wr.drewN nq = w5 at *
          clear M5 k1 k2 kd1
          rw [HO.out]
          have kd2 : w5.cell? ⟨g2, o2 + k, none⟩ = some (.int .u16 (n : Int)) := (M6.out.old.cell (World.block_lt_of_cell? w _ KC.out)).trans KC.out
          go_wp2_with fail
          refine (Update_any _ od n hcl hol hn w5).mono ?_
          rintro e w' ⟨he, rfl⟩
          rw [HT.out] at he
          subst he
          have k1 := M6.out.cell i x hx'
          have k2 := M6.out.cell (i + 1) y hy'
          have k3 := M6.out.free i
          have k4 := M6.out.free (i + 1)
          have hne : g2 ≠ gb := by omega
          have M7 := Lib.hid (show Mine w ((w5.setCell ⟨gb, i, none⟩ (.int .u8 ((n : Int) / 256))).setCell ⟨gb, i + 1, none⟩ (.int .u8 ((n : Int) % 256))) gb cb (put2 ts i n ++ [0, 1]) by
            have h := (M6.out.set i (UInt8.ofNat (n / 256))).set (i + 1) (UInt8.ofNat n)
            rw [show B8 (UInt8.ofNat (n / 256)) = .int .u8 ((n : Int) / 256) from B8_of (by rw [ofNat_lt]; omega), show B8 (UInt8.ofNat n) = .int .u8 ((n : Int) % 256) from B8_of (by rw [ofNat_lt]; omega)] at h
            rw [← put2_end hi2.out]
            exact h)
          go_wp2_with fail
          exact ⟨⟨k + 1, put2 ts i n, by omega, by go_num, rfl, by rw [put2_len]; exact TL.out, M7.out⟩, by simp [intOf]; omega⟩
      · by_cases q1 : k < M1
        · by_cases q2 : k < M2
          · have q3 : ¬ k < 20 := fun h => hlt ⟨q1, q2, h⟩
            clear hlt
            go_wp2_with fail
            refine (Sum_one rfl RD5.out (by have := TL.out; simp; omega)).mono ?_
            rintro e w6 ⟨rfl, hw6⟩
            have B6 := Lib.hid (show Below w.heap.size w w6 by subst hw6; exact M5.out.old.alloc M5.out.old.size _)
            clear hw6
            go_wp2_with fail
            go_ret
            exact ⟨rfl, B6.out⟩
          · clear hlt
            go_wp2_with fail
            refine (Sum_one rfl RD5.out (by have := TL.out; simp; omega)).mono ?_
            rintro e w6 ⟨rfl, hw6⟩
            have B6 := Lib.hid (show Below w.heap.size w w6 by subst hw6; exact M5.out.old.alloc M5.out.old.size _)
            clear hw6
            go_wp2_with fail
            go_ret
            exact ⟨rfl, B6.out⟩
        · clear hlt
          go_wp2_with fail
          refine (Sum_one rfl RD5.out (by have := TL.out; simp; omega)).mono ?_
          rintro e w6 ⟨rfl, hw6⟩
          have B6 := Lib.hid (show Below w.heap.size w w6 by subst hw6; exact M5.out.old.alloc M5.out.old.size _)
          clear hw6
          go_wp2_with fail
          go_ret
          exact ⟨rfl, B6.out⟩
end Go.Proofs.Ytphmgnlhnaobkaa
