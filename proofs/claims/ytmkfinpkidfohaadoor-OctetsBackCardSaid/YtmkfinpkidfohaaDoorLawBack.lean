/-
  What is proved: the law OctetsBack answers true for any puts, and leaves all older memory as it was.
  Conditions: errors.errorType holds the handle of the type error; the slice is of fewer than 2^63 elements.
-/
import Derived.Test.YtmkfinpkidfohaaDoorBackBits
namespace Go.Proofs.YtmkfinpkidfohaaDoor
open Go.RowKit

set_option maxRecDepth 100000 in
set_option maxHeartbeats 8000000 in
theorem back_any (A : Option Addr) (M c : Nat) (cut : Bool) (w : World) (hg : Hdl w) (hp : PutsAt w A M) (_hM : M ≤ c) (_hc : c ≤ 9223372036854775807) :
    Calls Tryd.prog 4 #[.slice A M c, .bool cut] w fun e w' => e = .returned (.bool true) ∧ Below w.heap.size w w' := by
  have HP := Lib.hid hp
  have HG := Lib.hid hg
  clear hp hg
  go_enter Tryd.func4, Tryd.ntmps4
  go_wp2_with fail
  refine (shown_any w HG.out).mono ?_
  rintro e w0 ⟨rfl, hb0⟩
  have h1 : One w w0.heap.size [] none (w0.alloc (.cells #[.slice none 0 0] 27)) := ⟨Wtr.zero (by simp) (by simp), fun k h => (by cases h), hb0.alloc hb0.size _, hb0.size⟩
  have O1 := Lib.hid h1
  clear h1 hb0
  go_upto_block 0 with (fail)
  generalize w0.heap.size = q at *
  go_cut [7] (fun v wx => ∃ (l : List PutV) (row : Option Nat), l.length ≤ 50 ∧ One w q (wire l) row wx ∧ Kept w q row v l wx)
  case first =>
   go_wp2_with fail
   go_loopw [7, 8] (fun v i wr => BackRel w q v i wr) (fun _ i _ => 50 - (intOf i).toNat)
   case atStart => exact ⟨0, [], none, by omega, by simp, rfl, O1.out, ⟨World.ownsRow_nil _ _ _ _, by simp [Value.ownBlock], by simp⟩⟩
   case round =>
     obtain ⟨k, l, row, hk, hll, rfl, hone, hkept⟩ := hrel
     have ON := Lib.hid hone
     have KE := Lib.hid hkept
     clear hone hkept O1
     by_cases hlt : k < M ∧ k < 50
     · obtain ⟨hlt1, hlt2⟩ := hlt
       obtain ⟨gP, oP, kd, n, B, ps0, cb, hA, hc0, hc1, hc2, hn0, hn1, hcbl, hrd⟩ := HP.out k hlt1
       subst hA
       have hk0 : wr.cell? ⟨gP, oP + k * 3, none⟩ = some (.int .i64 kd) := (ON.out.old.cell (World.block_lt_of_cell? w _ hc0)).trans hc0
       have hk1 : wr.cell? ⟨gP, oP + k * 3 + 1, none⟩ = some (.int .u32 n) := (ON.out.old.cell (World.block_lt_of_cell? w _ hc1)).trans hc1
       have hk2 : wr.cell? ⟨gP, oP + k * 3 + 2, none⟩ = some (.slice B ps0.length cb) := (ON.out.old.cell (World.block_lt_of_cell? w _ hc2)).trans hc2
       obtain ⟨nn, rfl⟩ := Int.eq_ofNat_of_zero_le hn0
       have hnn : nn < 4294967296 := by omega
       have HRD := Lib.hid hrd
       clear hc0 hc1 hc2 hrd hn0 hn1
       have hB1 : Below wr.heap.size wr (wr.alloc (.cells #[.int .i64 kd, .int .u32 (nn : Int), .slice B ps0.length cb] 30)) := (Below.refl _ _).alloc (Nat.le_refl _) _
       have hbx : Box w q row u7 wr.heap.size kd nn (.slice B ps0.length cb) (wr.alloc (.cells #[.int .i64 kd, .int .u32 (nn : Int), .slice B ps0.length cb] 30)) := by
         refine ⟨by rw [World.cell?_alloc_at _ _ _ _ rfl]; rfl, by rw [World.cell?_alloc_at _ _ _ _ rfl]; rfl, by rw [World.cell?_alloc_at _ _ _ _ rfl]; rfl, fun i => by simp, ON.out.old.size, ?_, ?_, ?_⟩
         · have := ON.out.a.at_; intro e; rw [← e] at this; exact Nat.lt_irrefl _ this
         · intro e; have := ON.out.a.row_lt _ e; exact Nat.lt_irrefl _ this
         · intro e; have := (KE.out.new _ e).2.2.2; exact Nat.lt_irrefl _ this
       have BX := Lib.hid hbx
       have O2 := Lib.hid (ON.out.below hB1)
       have K2 := Lib.hid (KE.out.below hB1)
       clear hbx hB1 ON KE
       go_upto_block 2 with (fail)
       generalize wr.alloc (.cells #[.int .i64 kd, .int .u32 (nn : Int), .slice B ps0.length cb] 30) = w1 at *
       generalize wr.heap.size = b at *
       clear hk0 hk1 hk2
       have hwl : (wire l).length ≤ 5000 := by have := wire_le K2.out.ok; omega
       go_cut [9] (fun pb wx => BackCut w q b u7 l kd pb wx)
       case first =>
         by_cases hd1 : kd = 1
         · as_aux_lemma =>
             subst hd1
             obtain ⟨m, hm⟩ : ∃ m : Nat, m = nn % 256 := ⟨_, rfl⟩
             have hml : m < 256 := by omega
             have hmi : (nn : Int) % 256 = (m : Int) := by omega
             clear hm
             have c1 := BX.out.c1
             have f1 := BX.out.fz 1
             have B3 := Lib.hid (BX.out.setN m)
             have O3 := Lib.hid (O2.out.setBox BX.out 1 (.int .u32 (m : Int)))
             have K3 := Lib.hid (K2.out.setBox BX.out 1 (.int .u32 (m : Int)))
             go_wp2_with fail
             refine (WU8_any _ row (wire l) m _ hml O3.out.a (by omega)).mono ?_
             rintro e w3 ⟨rfl, hw3⟩
             obtain ⟨row3, h3, k3, b3⟩ := wrote_beside O3.out K3.out B3.out hw3
             have R3 := Lib.hid (show _ ∧ _ ∧ _ from ⟨h3, k3, b3⟩)
             clear hw3 h3 k3 b3
             go_wp2_with fail
             go_meet
             case rel => exact ⟨row3, m, ps0.length, cb, B, _, rfl, R3.out.1, R3.out.2.1, R3.out.2.2, .inl ⟨⟨1, m, B, ps0.length, cb, []⟩, ok_num _ _ _ _ _ _ (by omega), rfl, rfl, rfl, rfl, rfl, by rw [wire_one]; rfl⟩⟩
         · skip
           by_cases hd2 : kd = 2
           · as_aux_lemma =>
               subst hd2
               obtain ⟨m, hm⟩ : ∃ m : Nat, m = nn % 65536 := ⟨_, rfl⟩
               have hml : m < 65536 := by omega
               have hmi : (nn : Int) % 65536 = (m : Int) := by omega
               clear hm
               have c1 := BX.out.c1
               have f1 := BX.out.fz 1
               have B3 := Lib.hid (BX.out.setN m)
               have O3 := Lib.hid (O2.out.setBox BX.out 1 (.int .u32 (m : Int)))
               have K3 := Lib.hid (K2.out.setBox BX.out 1 (.int .u32 (m : Int)))
               go_wp2_with fail
               refine (WU16_any _ row (wire l) m _ hml O3.out.a (by omega)).mono ?_
               rintro e w3 ⟨rfl, hw3⟩
               obtain ⟨row3, h3, k3, b3⟩ := wrote_beside O3.out K3.out B3.out hw3
               have R3 := Lib.hid (show _ ∧ _ ∧ _ from ⟨h3, k3, b3⟩)
               clear hw3 h3 k3 b3
               go_wp2_with fail
               go_meet
               case rel => exact ⟨row3, m, ps0.length, cb, B, _, rfl, R3.out.1, R3.out.2.1, R3.out.2.2, .inl ⟨⟨2, m, B, ps0.length, cb, []⟩, ok_num _ _ _ _ _ _ (by omega), rfl, rfl, rfl, rfl, rfl, by rw [wire_one]; rfl⟩⟩
           · skip
             by_cases hd3 : kd = 3
             · as_aux_lemma =>
                 subst hd3
                 have hml : nn < 4294967296 := hnn
                 have c1 := BX.out.c1
                 have B3 := BX
                 have O3 := O2
                 have K3 := K2
                 go_wp2_with fail
                 refine (WU32_any _ row (wire l) nn _ hml O3.out.a (by omega)).mono ?_
                 rintro e w3 ⟨rfl, hw3⟩
                 obtain ⟨row3, h3, k3, b3⟩ := wrote_beside O3.out K3.out B3.out hw3
                 have R3 := Lib.hid (show _ ∧ _ ∧ _ from ⟨h3, k3, b3⟩)
                 clear hw3 h3 k3 b3
                 go_wp2_with fail
                 go_meet
                 case rel => exact ⟨row3, nn, ps0.length, cb, B, _, rfl, R3.out.1, R3.out.2.1, R3.out.2.2, .inl ⟨⟨3, nn, B, ps0.length, cb, []⟩, ok_num _ _ _ _ _ _ (by omega), rfl, rfl, rfl, rfl, rfl, by rw [wire_one]; rfl⟩⟩
             · skip
               by_cases hd4 : kd = 4
               · as_aux_lemma =>
                   subst hd4
                   have hlc : ps0.length ≤ cb := by obtain ⟨A', c', e, h, _⟩ := HRD.out; cases e; exact h
                   obtain ⟨K, hK⟩ : ∃ K, K = min ps0.length 100 := ⟨_, rfl⟩
                   have hK1 : K ≤ ps0.length := by omega
                   have hK2 : K ≤ 100 := by omega
                   have hK3 : K ≤ cb := by omega
                   have hmin := fun W => min_run (P := Tryd.prog) #[3, 3] 3 (ps0.length : Int) 100 (K : Int) (by omega) W
                   obtain ⟨ps, hps⟩ : ∃ ps, ps = ps0.take K := ⟨_, rfl⟩
                   have hpl : ps.length = K := by rw [hps, List.length_take]; omega
                   have hrp : Rd w (.slice B K cb) ps := by
                     obtain ⟨A', c', e, h, hcell⟩ := HRD.out
                     cases e
                     refine ⟨B, cb, by rw [hpl], by omega, fun h0 => ?_⟩
                     obtain ⟨g, o, e, hi⟩ := hcell (by omega)
                     refine ⟨g, o, e, fun i u hu => hi i u ?_⟩
                     rw [hps, List.getElem?_take] at hu
                     split at hu
                     · exact hu
                     · cases hu
                   have PL := Lib.hid hpl
                   have RP := Lib.hid hrp
                   clear hps hpl hrp hK
                   have c2 := BX.out.c2
                   have f2 := BX.out.fz 2
                   have B3 := Lib.hid (BX.out.setB (.slice B K cb))
                   have O3 := Lib.hid (O2.out.setBox BX.out 2 (.slice B K cb))
                   have K3 := Lib.hid (K2.out.setBox BX.out 2 (.slice B K cb))
                   generalize ps0.length = L0 at *
                   go_wp2_with fail
                   refine (WBytes_any _ row (wire l) ps _ _ O3.out.a (RP.out.below O3.out.old) (by rw [PL.out]; omega)).mono ?_
                   rintro e w3 ⟨rfl, hw3⟩
                   obtain ⟨row3, h3, k3, b3⟩ := wrote_beside O3.out K3.out B3.out hw3
                   have R3 := Lib.hid (show _ ∧ _ ∧ _ from ⟨h3, k3, b3⟩)
                   clear hw3 h3 k3 b3
                   go_wp2_with fail
                   go_meet
                   case rel =>
                     refine ⟨row3, nn, K, cb, B, _, rfl, R3.out.1, R3.out.2.1, R3.out.2.2, ?_⟩
                     by_cases hK0 : K = 0
                     · have hn : ps = [] := List.eq_nil_of_length_eq_zero (by rw [PL.out, hK0])
                       exact .inr (.inl ⟨rfl, hK0, by rw [hn, List.append_nil]⟩)
                     · exact .inl ⟨⟨4, nn, B, K, cb, ps⟩, ok_part _ _ _ _ _ _ hnn PL.out.symm (by omega) hK2 RP.out, rfl, rfl, rfl, rfl, rfl, by rw [wire_one]; rfl⟩
               · as_aux_lemma =>
                   have q1 : (kd == 1) = false := by rw [beq_eq_false_iff_ne]; exact hd1
                   have q2 : (kd == 2) = false := by rw [beq_eq_false_iff_ne]; exact hd2
                   have q3 : (kd == 3) = false := by rw [beq_eq_false_iff_ne]; exact hd3
                   have q4 : (kd == 4) = false := by rw [beq_eq_false_iff_ne]; exact hd4
                   go_wp2_with fail
                   go_meet
                   case rel => exact ⟨row, nn, ps0.length, cb, B, _, rfl, O2.out, K2.out, BX.out, .inr (.inr ⟨by omega, rfl⟩)⟩
       case rest =>
         obtain ⟨row2, n2, m2, c2, B2, bs2, rfl, hone, hkept, hbox, hcase⟩ := hcut
         have c0' := hbox.c0
         have c1' := hbox.c1
         have c2' := hbox.c2
         have O3 := Lib.hid hone
         have K3 := Lib.hid hkept
         clear hone hkept hbox BX O2 K2
         rcases hcase with ⟨p, hok, rfl, rfl, rfl, rfl, rfl, rfl⟩ | ⟨rfl, rfl, rfl⟩ | ⟨hout, rfl⟩
         · obtain ⟨v', w4, hrun, ho4, hk4⟩ := keep_put O3.out K3.out p hok (by omega)
           have ER := Lib.hid hrun
           have R4 := Lib.hid (show _ ∧ _ from ⟨ho4, hk4⟩)
           have hkd := hok.kind
           have hpm := hok.part
           clear hrun ho4 hk4 hok O3 K3
           by_cases hk3 : p.kd ≤ 3
           · as_aux_lemma =>
               have hk3i : (p.kd : Int) ≤ 3 := by omega
               have hk1i : (1 : Int) ≤ (p.kd : Int) := by omega
               clear hpm hkd
               go_wp2_with (at_builtin; refine wpList_append_eq rfl (.tmp 100) (.tmp 102) 22 rfl _ _ rfl rfl _ _ ER.out ?_)
               exact ⟨⟨k + 1, l ++ [p], row2, by omega, by simp; omega, by go_num, R4.out.1, R4.out.2⟩, by simp [intOf]; omega⟩
           · as_aux_lemma =>
               have hk4 : p.kd = 4 := by omega
               obtain ⟨e1, e2, -, -⟩ := hpm hk4
               have hm0 : 0 < p.m := by omega
               have hm1 : (0 : Int) < (p.m : Int) := by omega
               have hk4i : (p.kd : Int) = 4 := by omega
               clear e1 e2 hpm hkd hk4 hk3
               have hrun := ER.out
               rw [hk4i] at hrun
               have E2 := Lib.hid hrun
               clear hrun ER
               go_wp2_with (at_builtin; refine wpList_append_eq rfl (.tmp 100) (.tmp 102) 22 rfl _ _ rfl rfl _ _ E2.out ?_)
               exact ⟨⟨k + 1, l ++ [p], row2, by omega, by simp; omega, by go_num, R4.out.1, R4.out.2⟩, by simp [intOf]; omega⟩
         · as_aux_lemma =>
             go_wp2_with fail
             exact ⟨⟨k + 1, l, row2, by omega, by omega, by go_num, O3.out, K3.out⟩, by simp [intOf]; omega⟩
         · as_aux_lemma =>
             rcases hout with ho | ho
             · have q4 : (kd == 4) = false := by rw [beq_eq_false_iff_ne]; omega
               go_wp2_with fail
               exact ⟨⟨k + 1, l, row2, by omega, by omega, by go_num, O3.out, K3.out⟩, by simp [intOf]; omega⟩
             · have q4 : (kd == 4) = false := by rw [beq_eq_false_iff_ne]; omega
               go_wp2_with fail
               exact ⟨⟨k + 1, l, row2, by omega, by omega, by go_num, O3.out, K3.out⟩, by simp [intOf]; omega⟩
     · have hl50 : l.length ≤ 50 := by omega
       by_cases hkM : k < M
       · have hk50 : ¬ k < 50 := fun h => hlt ⟨hkM, h⟩
         clear hlt
         go_wp2_with fail
         go_meet
         case rel => exact ⟨l, row, hl50, ON.out, KE.out⟩
       · clear hlt
         go_wp2_with fail
         go_meet
         case rel => exact ⟨l, row, hl50, ON.out, KE.out⟩
  case rest =>
    obtain ⟨l, row, hl50, hone, hkept⟩ := hcut
    have hwl : (wire l).length ≤ 5000 := by have := wire_le hkept.ok; omega
    have ON := Lib.hid hone
    have KE := Lib.hid hkept
    clear hone hkept O1
    go_wp2_with fail
    refine (WDone_any _ row (wire l) _ ON.out.a (by omega)).mono ?_
    rintro e w2 ⟨he, hw2⟩
    obtain ⟨hrd2, hb2⟩ := done_facts hw2
    obtain ⟨L, hL⟩ : ∃ L, L = (wire l).length := ⟨_, rfl⟩
    rw [← hL] at he hrd2 hwl
    subst he
    have R2 := Lib.hid hrd2
    have O2 := Lib.hid (ON.out.below hb2)
    have K2 := Lib.hid (KE.out.below hb2)
    have HL := Lib.hid hL
    clear hrd2 hb2 hw2 ON KE hL
    generalize wc.heap.size = gb at *
    go_upto_region 23 with (fail)
    go_cut [1] (fun v wx => ∃ ct : Bool, v = .bool ct ∧ w2 = wx ∧ (ct = true → 0 < L))
    case first =>
      cases cut
      · go_wp2_with fail
        go_meet
        case rel => exact ⟨false, rfl, rfl, by simp⟩
      · by_cases h0 : 0 < L
        · have h0i : (0 : Int) < (L : Int) := by omega
          go_wp2_with fail
          go_meet
          case rel => exact ⟨true, rfl, rfl, fun _ => h0⟩
        · have h0i : ¬ (0 : Int) < (L : Int) := by omega
          go_wp2_with fail
          go_meet
          case rel => exact ⟨false, rfl, rfl, by simp⟩
    case rest =>
     obtain ⟨ct, rfl, rfl, hct⟩ := hcut
     go_upto_if 112 with (fail)
     go_cut [10] (fun v wx => ∃ m : Nat, v = .slice (some ⟨gb, 0, none⟩) m L ∧ w2 = wx ∧ m = (rem ct l).length ∧ Rd w2 (.slice (some ⟨gb, 0, none⟩) m L) (rem ct l))
     case first =>
      cases ct
      · go_wp2_with fail
        go_meet
        case rel => exact ⟨L, rfl, rfl, HL.out, R2.out⟩
      · have h0 := hct rfl
        have h0i : (0 : Int) < (L : Int) := by omega
        obtain ⟨m, hm⟩ : ∃ m, m = L - 1 := ⟨_, rfl⟩
        have hmi : (L : Int) - 1 = (m : Int) := by omega
        have hrl : rem true l = (wire l).take m := by
          unfold rem
          rw [if_pos rfl, List.dropLast_eq_take, ← HL.out, hm]
        have HM := Lib.hid (show m = (rem true l).length ∧ Rd w2 (.slice (some ⟨gb, 0, none⟩) m L) (rem true l) by
          rw [hrl]
          exact ⟨by rw [List.length_take, ← HL.out]; omega, Rd.front' R2.out (by omega)⟩)
        have hmL : m ≤ L := by omega
        clear hm hrl
        go_wp2_with fail
        go_meet
        case rel => exact ⟨m, rfl, rfl, HM.out.1, HM.out.2⟩
     case rest =>
      obtain ⟨m, rfl, rfl, hm, hrd⟩ := hcut
      have hm5 : m ≤ 5000 := by
        rw [hm]
        unfold rem
        split
        · rw [List.length_dropLast]; have := HL.out; omega
        · have := HL.out; omega
      have RM := Lib.hid hrd
      have HM := Lib.hid hm
      have HCT : Hid (ct = true → 0 < l.length) := fun e => by
        have h1 := hct e
        rw [HL.out] at h1
        rcases Nat.eq_zero_or_pos l.length with h2 | h2
        · rw [List.eq_nil_of_length_eq_zero h2] at h1
          simp [wire] at h1
        · exact h2
      clear hm hrd R2 hct
      go_wp2_with fail
      refine (Read_facts _ (rem ct l) _ RM.out (by rw [← HM.out]; omega)).mono ?_
      rintro e w5 ⟨r, rfl, hr, rr5, hb5⟩
      have K5 := Lib.hid (K2.out.below hb5)
      have R5 := Lib.hid rr5
      have B5 := Lib.hid (below_to O2.out.old hb5 O2.out.old.size)
      have hrn : w.heap.size ≤ r := by have := O2.out.old.size; omega
      have hrv : Hid (∀ g, u7.ownBlock = some g → g < r) := fun g hg => by have := (K2.out.new g hg).2.2.2; omega
      clear rr5 hb5 RM HM K2 O2 HL hr hwl
      obtain ⟨N, hN⟩ : ∃ N, N = l.length := ⟨_, rfl⟩
      have HN := Lib.hid hN
      obtain ⟨A7, c7, rfl, hNc⟩ : ∃ A c', u7 = .slice A N c' ∧ N ≤ c' := by
        rw [hN]
        rcases K5.out.own.2 with ⟨e, hn⟩ | ⟨g, cap, cur, e, _, _, hnc, _⟩
        · exact ⟨none, 0, by rw [e, hn], by omega⟩
        · exact ⟨_, cap, e, hnc⟩
      rw [← hN] at hl50 HCT
      clear hN
      have hlen : Hid (∀ j, (rem ct (l.drop j)).length ≤ 1099511627776) := by
        intro j
        have h1 : (wire (l.drop j)).length ≤ 100 * (l.drop j).length := wire_le (w := w) (fun x hx => K5.out.ok x (List.mem_of_mem_drop hx))
        have h2 : (l.drop j).length ≤ l.length := by rw [List.length_drop]; omega
        have h3 := HN.out
        unfold rem
        split
        · rw [List.length_dropLast]; omega
        · omega
      go_wp2_with fail
      go_loopw [12] (fun i wr => ∃ j : Nat, j ≤ N ∧ i = .int .i64 (j : Int) ∧ (ct = true → j < N) ∧ Rdr wr ⟨r, 0, none⟩ (rem ct (l.drop j)) ∧ Fr (· = ⟨r, 0, none⟩) w5 wr) (fun i _ => N - (intOf i).toNat)
      case atStart => exact ⟨0, by omega, rfl, HCT.out, R5.out, Fr.refl _ _⟩
      case round =>
        obtain ⟨j, hj, rfl, hjc, hrr, hff⟩ := hrel
        have RR := Lib.hid hrr
        have FF := Lib.hid hff
        have JC := Lib.hid hjc
        clear hrr hff hjc R5
        by_cases hlt : j < N
        · have hjl : j < l.length := by have := HN.out; omega
          obtain ⟨p, hp⟩ : ∃ p, l[j]? = some p := ⟨l[j], List.getElem?_eq_getElem hjl⟩
          have hd : l.drop j = p :: l.drop (j + 1) := by
            rw [List.drop_eq_getElem_cons hjl]
            congr 1
            rw [List.getElem?_eq_getElem hjl] at hp
            exact Option.some.inj hp
          have hkw : Kept w q row (.slice A7 N c7) l wr := K5.out.fr FF.out (fun g hg x hx e => by subst hx; have := hrv.out g hg; have e' : r = g := e; omega) (.inl rfl)
          obtain ⟨g, cg, eg, -, hc0, hc1, hc2⟩ := putsCell hkw.own hp
          injection eg with eg1 eg2 eg3
          subst eg1
          have hpok : p.Ok w := K5.out.ok p (List.mem_of_getElem? hp)
          have hkd := hpok.kind
          have POK := Lib.hid hpok
          have HD := Lib.hid hd
          have HPj := Lib.hid hp
          have OKS := Lib.hid K5.out.ok
          have HN' : Hid (l.length = N) := HN.out.symm
          clear hd hp hkw hpok eg2 eg3
          go_upto_block 5 with (fail)
          go_cut [13, 14, 15] (fun nv pv ev wx => ∃ x : Nat, nv = .int .u32 (x : Int) ∧ ∃ (C : Option Addr) (n d : Nat), pv = .slice C n d ∧ Got w5 ct r N j l (fun y => (p.kd < 4 → x = p.n) ∧ (p.kd = 4 → Rd y (.slice C n d) p.ps)) ev wx)
          case first =>
            by_cases hk1 : p.kd = 1
            · as_aux_lemma =>
                have q1 : ((p.kd : Int) == 1) = true := by rw [beq_iff_eq]; omega
                have HR := Lib.hid (got8 HN'.out OKS.out HD.out POK.out hk1 RR.out FF.out (hlen.out j))
                have NK : Hid (p.kd = 1) := hk1
                clear hk1 hkd
                go_wp2_with fail
                refine HR.out.mono ?_
                rintro e w6 ⟨x, ev, rfl, hx, hgot⟩
                have GO := Lib.hid hgot
                clear hgot
                go_wp2_with fail
                go_meet
                case rel => exact ⟨x, rfl, none, 0, 0, rfl, GO.out.mono (fun _ h => ⟨fun _ => h, fun h4 => by have := NK.out; omega⟩)⟩
            · skip
              by_cases hk2 : p.kd = 2
              · as_aux_lemma =>
                  have q1 : ((p.kd : Int) == 1) = false := by rw [beq_eq_false_iff_ne]; omega
                  have q2 : ((p.kd : Int) == 2) = true := by rw [beq_iff_eq]; omega
                  have HR := Lib.hid (got16 HN'.out OKS.out HD.out POK.out hk2 RR.out FF.out (hlen.out j))
                  have NK : Hid (p.kd = 2) := hk2
                  clear hk1 hk2 hkd
                  go_wp2_with fail
                  refine HR.out.mono ?_
                  rintro e w6 ⟨x, ev, rfl, hx, hgot⟩
                  have GO := Lib.hid hgot
                  clear hgot
                  go_wp2_with fail
                  go_meet
                  case rel => exact ⟨x, rfl, none, 0, 0, rfl, GO.out.mono (fun _ h => ⟨fun _ => h, fun h4 => by have := NK.out; omega⟩)⟩
              · skip
                by_cases hk3 : p.kd = 3
                · as_aux_lemma =>
                    have q1 : ((p.kd : Int) == 1) = false := by rw [beq_eq_false_iff_ne]; omega
                    have q2 : ((p.kd : Int) == 2) = false := by rw [beq_eq_false_iff_ne]; omega
                    have q3 : ((p.kd : Int) == 3) = true := by rw [beq_iff_eq]; omega
                    have HR := Lib.hid (got32 HN'.out OKS.out HD.out POK.out hk3 RR.out FF.out (hlen.out j))
                    have NK : Hid (p.kd = 3) := hk3
                    clear hk1 hk2 hk3 hkd
                    go_wp2_with fail
                    refine HR.out.mono ?_
                    rintro e w6 ⟨x, ev, rfl, hx, hgot⟩
                    have GO := Lib.hid hgot
                    clear hgot
                    go_wp2_with fail
                    go_meet
                    case rel => exact ⟨x, rfl, none, 0, 0, rfl, GO.out.mono (fun _ h => ⟨fun _ => h, fun h4 => by have := NK.out; omega⟩)⟩
                · as_aux_lemma =>
                    have hk4 : p.kd = 4 := by omega
                    have q1 : ((p.kd : Int) == 1) = false := by rw [beq_eq_false_iff_ne]; omega
                    have q2 : ((p.kd : Int) == 2) = false := by rw [beq_eq_false_iff_ne]; omega
                    have q3 : ((p.kd : Int) == 3) = false := by rw [beq_eq_false_iff_ne]; omega
                    have q4 : ((p.kd : Int) == 4) = true := by rw [beq_iff_eq]; omega
                    have HR := Lib.hid (got4 HN'.out OKS.out HD.out POK.out hk4 RR.out FF.out (hlen.out j))
                    have NK : Hid (p.kd = 4) := hk4
                    clear hk1 hk2 hk3 hk4 hkd
                    go_wp2_with fail
                    refine HR.out.mono ?_
                    rintro e w6 ⟨C, n, d, ev, rfl, hgot⟩
                    have GO := Lib.hid hgot
                    clear hgot
                    go_wp2_with fail
                    go_meet
                    case rel => exact ⟨0, rfl, C, n, d, rfl, GO.out.mono (fun _ h => ⟨fun h4 => by have := NK.out; omega, fun _ => h⟩)⟩
          case rest =>
            obtain ⟨x, rfl, C, n, d, rfl, hfx, hcase⟩ := hcut
            have FX := Lib.hid hfx
            have BX := Lib.hid (below_to B5.out (hfx.below (B := w.heap.size) B5.out.size (fun a ha => by subst ha; exact hrn)) (Nat.le_refl _))
            have hkx : Kept w q row (.slice (some ⟨g, 0, none⟩) N c7) l wc := K5.out.fr hfx (fun g' hg x hx e => by subst hx; have := hrv.out g' hg; have e' : r = g' := e; omega) (.inl rfl)
            obtain ⟨g', cg', eg', -, kc0, kc1, kc2⟩ := putsCell hkx.own HPj.out
            injection eg' with eg1 eg2 eg3
            injection eg1 with eg1
            injection eg1 with eg1 _ _
            subst eg1
            clear hkx eg2 eg3 hfx RR FF hc0 hc1 hc2
            rcases hcase with ⟨rfl, hlast, hch⟩ | ⟨hnl, rfl, hrx, hgood⟩
            · as_aux_lemma =>
                have q1 : ((j : Int) == (N : Int) - 1) = true := by rw [beq_iff_eq]; omega
                have CH := Lib.hid hch
                clear hch
                go_wp2_with fail
                refine (code_any 2 _ _ _ (HG.out.below BX.out) CH.out).mono ?_
                rintro e w7 ⟨rfl, hb7⟩
                have B7 := Lib.hid (below_to BX.out hb7 BX.out.size)
                clear hb7
                go_wp2_with fail
                go_ret
                exact ⟨rfl, B7.out⟩
            · have RX := Lib.hid hrx
              have GD := Lib.hid hgood
              have NL := Lib.hid hnl
              clear hrx hgood
              by_cases hk4 : p.kd = 4
              · have hps := GD.out.2 hk4
                have hpo := (POK.out.part hk4).2.2.2
                have q1 : decide ((p.kd : Int) < 4) = false := decide_eq_false (by omega)
                have q2 : ((p.kd : Int) == 4) = true := by rw [beq_iff_eq]; omega
                have v1 := fun k => convert_rd (show Rd (wc.drewN k) (.slice C n d) p.ps from hps.keep fun _ _ hu => hu)
                have v2 := fun k => convert_rd (show Rd (wc.drewN k) (.slice p.B p.m p.c) p.ps from (hpo.below BX.out).keep fun _ _ hu => hu)
                generalize txt p.ps = T at *
                have NK := Lib.hid hk4
                clear hk4 hkd hps hpo
                cases ct
                · as_aux_lemma =>
                    go_wp2_with fail
                    go_quiet (fail)
                    go_wp2_with fail
                    exact ⟨⟨j + 1, by omega, by go_num, fun e => Nat.lt_of_le_of_ne (by omega) (fun h => NL.out ⟨e, h⟩), RX.out.keep rfl (fun _ _ hu _ => hu), FX.out.trans ((Fr.refl _ _).drewN _)⟩, by simp [intOf]; omega⟩
                · as_aux_lemma =>
                    have q3 : ((j : Int) == (N : Int) - 1) = false := by rw [beq_eq_false_iff_ne]; intro e; exact NL.out ⟨rfl, by omega⟩
                    go_wp2_with fail
                    go_quiet (fail)
                    go_wp2_with fail
                    exact ⟨⟨j + 1, by omega, by go_num, fun e => Nat.lt_of_le_of_ne (by omega) (fun h => NL.out ⟨e, h⟩), RX.out.keep rfl (fun _ _ hu _ => hu), FX.out.trans ((Fr.refl _ _).drewN _)⟩, by simp [intOf]; omega⟩
              · have hxn := GD.out.1 (by omega)
                subst hxn
                have q1 : decide ((p.kd : Int) < 4) = true := decide_eq_true (by omega)
                have q2 : ((p.kd : Int) == 4) = false := by rw [beq_eq_false_iff_ne]; omega
                clear hk4 hkd
                cases ct
                · as_aux_lemma =>
                    go_wp2_with fail
                    go_quiet (fail)
                    go_wp2_with fail
                    exact ⟨⟨j + 1, by omega, by go_num, fun e => Nat.lt_of_le_of_ne (by omega) (fun h => NL.out ⟨e, h⟩), RX.out.keep rfl (fun _ _ hu _ => hu), FX.out.trans ((Fr.refl _ _).drewN _)⟩, by simp [intOf]; omega⟩
                · as_aux_lemma =>
                    have q3 : ((j : Int) == (N : Int) - 1) = false := by rw [beq_eq_false_iff_ne]; intro e; exact NL.out ⟨rfl, by omega⟩
                    go_wp2_with fail
                    go_quiet (fail)
                    go_wp2_with fail
                    exact ⟨⟨j + 1, by omega, by go_num, fun e => Nat.lt_of_le_of_ne (by omega) (fun h => NL.out ⟨e, h⟩), RX.out.keep rfl (fun _ _ hu _ => hu), FX.out.trans ((Fr.refl _ _).drewN _)⟩, by simp [intOf]; omega⟩
        · have hjN : j = N := by omega
          cases ct
          · have hr0 : rem false (l.drop j) = [] := by
              have e : l.drop j = [] := List.drop_eq_nil_of_le (by have := HN.out; omega)
              rw [e]
              rfl
            have RZ := Lib.hid (show Rdr wr ⟨r, 0, none⟩ [] from hr0 ▸ RR.out)
            have BZ := Lib.hid (below_to B5.out (FF.out.below (B := w.heap.size) B5.out.size (fun a ha => by subst ha; exact hrn)) (Nat.le_refl _))
            clear hr0 hjN
            go_wp2_with fail
            refine (done_nil _ _ RZ.out).mono ?_
            rintro e w' ⟨rfl, rfl⟩
            go_wp2_with fail
            refine (left_any _ [] _ RZ.out).mono ?_
            rintro e w' ⟨rfl, rfl⟩
            go_wp2_with fail
            go_ret
            exact ⟨rfl, BZ.out⟩
          · exact absurd (JC.out rfl) hlt
end Go.Proofs.YtmkfinpkidfohaaDoor
