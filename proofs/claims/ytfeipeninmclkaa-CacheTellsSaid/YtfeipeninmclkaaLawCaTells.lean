/-
  What is proved: CacheTells by contract: the law returns true, and older memory is as it was.
  Conditions: none but those of the arguments.
-/
import Derived.Test.YtfeipeninmclkaaRcTwo
import Derived.Deep.DeepCutAuto
namespace Go.Proofs.Ytfeipeninmclkaa
open Go.RowKit

set_option maxRecDepth 100000 in
set_option maxHeartbeats 8000000 in
theorem cacheTells_con (x0 : Int) (A : Option Addr) (M c : Nat) (w : World) (h0 : U64 x0) (hMc : M ≤ c) (hc : c ≤ 9223372036854775807) (hS : StepsAt w A M) :
    Calls Try.prog 3 #[.int .u64 x0, .slice A M c] w fun e w' => e = .returned (.bool true) ∧ Below w.heap.size w w' := by
  have X0 := Lib.hid (fun W => shown_any W)
  have HN := Lib.hid (fun W => new_any W)
  have HS := Lib.hid hS
  have H0 := Lib.hid h0
  have hM : M ≤ 9223372036854775807 := by omega
  clear hS hMc hc h0
  go_enter Try.func3, Try.ntmps3
  go_upto_region 3 with (first
    | (go_at_call 9; refine (X0.out _).mono ?_; rintro e w1 ⟨rfl, hB⟩; (have B1 := Lib.hid hB); clear hB)
    | (go_at_call 10; refine (HN.out _).mono ?_; rintro e w2 ⟨pa, rfl, hC, _, hB⟩; (have C2 := Lib.hid hC); (have B2 := Lib.hid hB); clear hC hB))
  have Z0 := Lib.hid (cy_start B1.out C2.out B2.out)
  clear C2 B2
  go_upto_block 0 with fail
  generalize w2.alloc (.cells #[.slice none 0 0] 30) = w3 at Z0 ⊢
  generalize w2.heap.size = pb at Z0 ⊢
  have Z0' : Hid (∃ Fa Fb v, Cy w (fun _ => False) w3 pa Fa (([] : List Xe).map Xe.e) pb Fb v []) := Lib.hid ⟨_, _, _, Z0.out⟩
  clear Z0 B1
  go_wp2_with fail
  go_loopw [0, 8] (fun s0 s8 wr => ∃ (k : Nat) (t : Int) (P : List Xe), s0 = .int .u64 t ∧ s8 = .int .i64 (k : Int) ∧ k ≤ M ∧ U64 t ∧ ∃ Fa Fb v, Cy w (fun _ => False) wr pa Fa (P.map Xe.e) pb Fb v P) (fun _ s8 _ => M - (intOf s8).toNat)
  case atStart => exact ⟨0, x0, [], rfl, rfl, Nat.zero_le _, H0.out, Z0'.out⟩
  case round =>
    obtain ⟨k, t, P, rfl, rfl, hk, ht, Fa, Fb, v, hZ⟩ := hrel
    have HZ := Lib.hid hZ
    clear hZ Z0'
    by_cases hlt : k < M
    · have q1 : decide ((k : Int) < (M : Int)) = true := decide_eq_true (by omega)
      by_cases h3 : k < 300
      · have q2 : decide ((k : Int) < 300) = true := decide_eq_true (by omega)
        obtain ⟨g1, o1, kd, ip, m, bs, b, B1, c1, rfl, hkd, hip, hbs, hb, hrd, c0, d1, d2, d3, d4, d5, d6, d7, d8, d9⟩ := HS.out.get hlt
        have Hi := Lib.hid hip
        have Hbs := Lib.hid hbs
        have Hrw := Lib.hid hrd
        have Hrd := Lib.hid (hrd.below HZ.out.base)
        have c0 := (HZ.out.base.cell (World.block_lt_of_cell? w _ c0)).trans c0
        have d1 := (HZ.out.base.cell (World.block_lt_of_cell? w _ d1)).trans d1
        have d2 := (HZ.out.base.cell (World.block_lt_of_cell? w _ d2)).trans d2
        have d3 := (HZ.out.base.cell (World.block_lt_of_cell? w _ d3)).trans d3
        have d4 := (HZ.out.base.cell (World.block_lt_of_cell? w _ d4)).trans d4
        have d5 := (HZ.out.base.cell (World.block_lt_of_cell? w _ d5)).trans d5
        have d6 := (HZ.out.base.cell (World.block_lt_of_cell? w _ d6)).trans d6
        have d7 := (HZ.out.base.cell (World.block_lt_of_cell? w _ d7)).trans d7
        have d8 := (HZ.out.base.cell (World.block_lt_of_cell? w _ d8)).trans d8
        have d9 := (HZ.out.base.cell (World.block_lt_of_cell? w _ d9)).trans d9
        have qb := wrap_by hb
        obtain ⟨t2, ht2⟩ : ∃ t2, IntKind.u64.wrap (t + b) = t2 := ⟨_, rfl⟩
        have Ht2 : Hid (U64 t2) := Lib.hid (ht2 ▸ wrap_u _)
        clear hip hbs hb hrd
        go_upto_block 2 with (refine wpList_store_row rfl 37 (.tmp 9) (.tmp 46) rfl wr.heap.size #[.int .i64 kd, .int .u32 ip, .int .u8 m.a, .int .u8 m.b, .int .u8 m.c, .int .u8 m.d, .int .u8 m.e, .int .u8 m.f, .slice B1 bs.length c1, .int .u8 b] rfl rfl 37 _ (heap_alloc_new wr _) stepSize rfl (step_one _ _ _ _ _ _ _) ?_; rw [setRow_alloc])
        have D4 := Lib.hid ((Below.refl _ wr).alloc (Nat.le_refl _) (.cells #[.int .i64 kd, .int .u32 ip, .int .u8 m.a, .int .u8 m.b, .int .u8 m.c, .int .u8 m.d, .int .u8 m.e, .int .u8 m.f, .slice B1 bs.length c1, .int .u8 b] 37))
        have Z4 := Lib.hid (HZ.out.box (g := wr.heap.size) D4.out (Nat.le_refl _) (by simp))
        have M4 : Hid ((wr.alloc (.cells #[.int .i64 kd, .int .u32 ip, .int .u8 m.a, .int .u8 m.b, .int .u8 m.c, .int .u8 m.d, .int .u8 m.e, .int .u8 m.f, .slice B1 bs.length c1, .int .u8 b] 37)).heap[wr.heap.size]? = some (stObj kd ip m (.slice B1 bs.length c1) b)) := Lib.hid (heap_alloc_new wr (stObj kd ip m (.slice B1 bs.length c1) b))
        have R4 := Lib.hid (Hrd.out.below D4.out)
        generalize wr.alloc (.cells #[.int .i64 kd, .int .u32 ip, .int .u8 m.a, .int .u8 m.b, .int .u8 m.c, .int .u8 m.d, .int .u8 m.e, .int .u8 m.f, .slice B1 bs.length c1, .int .u8 b] 37) = w4 at D4 Z4 M4 R4 ⊢
        generalize wr.heap.size = G at Z4 M4 ⊢
        clear D4 c0 d1 d2 d3 d4 d5 d6 d7 d8 d9 Hrd qb ht2 HZ
        go_cut [10] (fun s10 wx => s10 = .bool true ∧ ∃ (P2 : List Xe) (Fa2 Fb2 : Nat → Prop) (v2 : Value), Cy w (fun k => k = G) wx pa Fa2 (P2.map Xe.e) pb Fb2 v2 P2 ∧ wx.heap[G]? = some (stObj kd ip m (.slice B1 bs.length c1) b))
        case first =>
          by_cases h0 : kd = 0
          · subst h0
            as_aux_lemma =>
            have XA := Lib.hid (Z4.out.a.wait (ip := ip) (now := t2) Hi.out Ht2.out Hbs.out R4.out)
            obtain ⟨wa, hwa⟩ : ∃ wa, waitA (P.map Xe.e) ip t2 = wa := ⟨_, rfl⟩
            obtain ⟨wc, hwc⟩ : ∃ wc, waitC (P.map Xe.e) ip t2 = wc := ⟨_, rfl⟩
            have Hw := Lib.hid (And.intro hwa hwc)
            unfold WaitAt at XA
            rw [hwa, hwc] at XA
            clear hwa hwc
            obtain ⟨b0, b1, b2, b3, b4, b5, b6, b7, b8, b9⟩ := step_box M4.out
            go_upto_region 16 with (go_at_call 11; (with_reducible refine XA.out.mono ?_); rintro e w5 ⟨Fa2, rfl, hC, hD, _⟩; (have Z5 := Lib.hid (Z4.out.didA hC hD)); (have M5 := Lib.hid ((Z4.out.keepA hD G rfl).trans M4.out)); clear hC hD)
            clear b0 b1 b2 b3 b4 b5 b6 b7 b8 b9 XA
            obtain ⟨b0, b1, b2, b3, b4, b5, b6, b7, b8, b9⟩ := step_box M5.out
            have hcv := convert_rd (Hrw.out.below Z5.out.base)
            have XB := Lib.hid (rwait_any P ip t2 bs Hi.out Ht2.out pb Fb v w5 Z5.out.b)
            unfold RWaitAt at XB
            rw [Hw.out.1, Hw.out.2] at XB
            have qe1 : (wa == wa) = true := by simp
            have qe2 : (wc == wc) = true := by simp
            go_wp2_with (go_at_call 12; (with_reducible refine XB.out.mono ?_); rintro e w6 ⟨v6, F6, P6, rfl, hm, hR, hD⟩; (have Z6 := Lib.hid (Z5.out.didB hR hD)); (have M6 := Lib.hid ((Z5.out.keepB hD G rfl).trans M5.out)); (have HM6 := Lib.hid hm); clear hR hD hm)
            go_meet
            case rel => exact ⟨rfl, P6, _, _, _, by rw [HM6.out]; exact Z6.out, M6.out⟩
          · by_cases h1 : kd = 1
            · subst h1
              as_aux_lemma =>
              have XA := Lib.hid (Z4.out.a.wait (ip := ip) (now := t2) Hi.out Ht2.out Hbs.out R4.out)
              obtain ⟨wa, hwa⟩ : ∃ wa, waitA (P.map Xe.e) ip t2 = wa := ⟨_, rfl⟩
              obtain ⟨wc, hwc⟩ : ∃ wc, waitC (P.map Xe.e) ip t2 = wc := ⟨_, rfl⟩
              have Hw := Lib.hid (And.intro hwa hwc)
              unfold WaitAt at XA
              rw [hwa, hwc] at XA
              clear hwa hwc
              obtain ⟨b0, b1, b2, b3, b4, b5, b6, b7, b8, b9⟩ := step_box M4.out
              go_upto_region 16 with (go_at_call 11; (with_reducible refine XA.out.mono ?_); rintro e w5 ⟨Fa2, rfl, hC, hD, _⟩; (have Z5 := Lib.hid (Z4.out.didA hC hD)); (have M5 := Lib.hid ((Z4.out.keepA hD G rfl).trans M4.out)); clear hC hD)
              clear b0 b1 b2 b3 b4 b5 b6 b7 b8 b9 XA
              obtain ⟨b0, b1, b2, b3, b4, b5, b6, b7, b8, b9⟩ := step_box M5.out
              have hcv := convert_rd (Hrw.out.below Z5.out.base)
              have XB := Lib.hid (rwait_any P ip t2 bs Hi.out Ht2.out pb Fb v w5 Z5.out.b)
              unfold RWaitAt at XB
              rw [Hw.out.1, Hw.out.2] at XB
              have qe1 : (wa == wa) = true := by simp
              have qe2 : (wc == wc) = true := by simp
              go_wp2_with (go_at_call 12; (with_reducible refine XB.out.mono ?_); rintro e w6 ⟨v6, F6, P6, rfl, hm, hR, hD⟩; (have Z6 := Lib.hid (Z5.out.didB hR hD)); (have M6 := Lib.hid ((Z5.out.keepB hD G rfl).trans M5.out)); (have HM6 := Lib.hid hm); clear hR hD hm)
              go_meet
              case rel => exact ⟨rfl, P6, _, _, _, by rw [HM6.out]; exact Z6.out, M6.out⟩
            · by_cases h2 : kd = 2
              · subst h2
                as_aux_lemma =>
                have XA := Lib.hid (Z4.out.a.learn (ip := ip) (now := t2) (m := m) Hi.out Ht2.out)
                obtain ⟨lc, hlc⟩ : ∃ lc, learnC (P.map Xe.e) ip = lc := ⟨_, rfl⟩
                obtain ⟨lp, hlp⟩ : ∃ lp, learnP (P.map Xe.e) ip = lp := ⟨_, rfl⟩
                have hfew := learn_few (ip := ip) Z4.out.a.ok
                have Hw := Lib.hid (And.intro hlc hlp)
                unfold LearnAt Mc.val at XA
                rw [hlc, hlp] at XA
                rw [hlp] at hfew
                clear hlc hlp
                obtain ⟨b0, b1, b2, b3, b4, b5, b6, b7, b8, b9⟩ := step_box M4.out
                go_upto_region 21 with (go_at_call 13; (with_reducible refine XA.out.mono ?_); rintro e w5 ⟨sv, rfl, hP, hC, hD⟩; (have Z5 := Lib.hid (Z4.out.didA hC hD)); (have M5 := Lib.hid ((Z4.out.keepA hD G rfl).trans M4.out)); (have P5 := Lib.hid hP); clear hC hD hP)
                clear b0 b1 b2 b3 b4 b5 b6 b7 b8 b9 XA
                obtain ⟨b0, b1, b2, b3, b4, b5, b6, b7, b8, b9⟩ := step_box M5.out
                have XB := Lib.hid (rlearn_any P ip m t2 Hi.out Ht2.out pb Fb v w5 Z5.out.b)
                unfold RLearnAt Mc.val at XB
                rw [Hw.out.1, Hw.out.2] at XB
                go_upto_region 22 with (go_at_call 14; (with_reducible refine XB.out.mono ?_); rintro e w6 ⟨A6, c6, v6, F6, P6, rfl, hS, hm, hR, hD⟩; (have Z6 := Lib.hid (Z5.out.didB hR hD)); (have M6 := Lib.hid ((Z5.out.keepB hD G rfl).trans M5.out)); (have HM6 := Lib.hid hm); (have S6 := Lib.hid hS.rd); (have P6' := Lib.hid (P5.out.at (fun k hk _ => hD.block k (Z5.out.a.flt k hk) (fun hb => Z5.out.dis k hk hb)))); clear hR hD hm hS)
                clear b0 b1 b2 b3 b4 b5 b6 b7 b8 b9 XB
                have XT := Lib.hid (texts_any lp hfew sv (.slice A6 lp.length c6) w6 P6'.out.shape P6'.out.texts S6.out)
                have qe2 : (lc == lc) = true := by simp
                go_wp2_with (go_at_call 15; (with_reducible refine XT.out.mono ?_); rintro e w7 ⟨rfl, hB⟩; (have B7 := Lib.hid hB); clear hB)
                go_meet
                case rel => exact ⟨rfl, P6, _, _, _, by rw [HM6.out]; exact Z6.out.to B7.out, (B7.out.block G (Z6.out.lt G rfl)).trans M6.out⟩
              · by_cases h3 : kd = 3
                · subst h3
                  as_aux_lemma =>
                  have XA := Lib.hid (Z4.out.a.learn (ip := ip) (now := t2) (m := m) Hi.out Ht2.out)
                  obtain ⟨lc, hlc⟩ : ∃ lc, learnC (P.map Xe.e) ip = lc := ⟨_, rfl⟩
                  obtain ⟨lp, hlp⟩ : ∃ lp, learnP (P.map Xe.e) ip = lp := ⟨_, rfl⟩
                  have hfew := learn_few (ip := ip) Z4.out.a.ok
                  have Hw := Lib.hid (And.intro hlc hlp)
                  unfold LearnAt Mc.val at XA
                  rw [hlc, hlp] at XA
                  rw [hlp] at hfew
                  clear hlc hlp
                  obtain ⟨b0, b1, b2, b3, b4, b5, b6, b7, b8, b9⟩ := step_box M4.out
                  go_upto_region 21 with (go_at_call 13; (with_reducible refine XA.out.mono ?_); rintro e w5 ⟨sv, rfl, hP, hC, hD⟩; (have Z5 := Lib.hid (Z4.out.didA hC hD)); (have M5 := Lib.hid ((Z4.out.keepA hD G rfl).trans M4.out)); (have P5 := Lib.hid hP); clear hC hD hP)
                  clear b0 b1 b2 b3 b4 b5 b6 b7 b8 b9 XA
                  obtain ⟨b0, b1, b2, b3, b4, b5, b6, b7, b8, b9⟩ := step_box M5.out
                  have XB := Lib.hid (rlearn_any P ip m t2 Hi.out Ht2.out pb Fb v w5 Z5.out.b)
                  unfold RLearnAt Mc.val at XB
                  rw [Hw.out.1, Hw.out.2] at XB
                  go_upto_region 22 with (go_at_call 14; (with_reducible refine XB.out.mono ?_); rintro e w6 ⟨A6, c6, v6, F6, P6, rfl, hS, hm, hR, hD⟩; (have Z6 := Lib.hid (Z5.out.didB hR hD)); (have M6 := Lib.hid ((Z5.out.keepB hD G rfl).trans M5.out)); (have HM6 := Lib.hid hm); (have S6 := Lib.hid hS.rd); (have P6' := Lib.hid (P5.out.at (fun k hk _ => hD.block k (Z5.out.a.flt k hk) (fun hb => Z5.out.dis k hk hb)))); clear hR hD hm hS)
                  clear b0 b1 b2 b3 b4 b5 b6 b7 b8 b9 XB
                  have XT := Lib.hid (texts_any lp hfew sv (.slice A6 lp.length c6) w6 P6'.out.shape P6'.out.texts S6.out)
                  have qe2 : (lc == lc) = true := by simp
                  go_wp2_with (go_at_call 15; (with_reducible refine XT.out.mono ?_); rintro e w7 ⟨rfl, hB⟩; (have B7 := Lib.hid hB); clear hB)
                  go_meet
                  case rel => exact ⟨rfl, P6, _, _, _, by rw [HM6.out]; exact Z6.out.to B7.out, (B7.out.block G (Z6.out.lt G rfl)).trans M6.out⟩
                · by_cases h4 : kd = 4
                  · subst h4
                    as_aux_lemma =>
                    have XA := Lib.hid (Z4.out.a.tick (now := t2) Ht2.out)
                    obtain ⟨tn, htn⟩ : ∃ tn, tickN (P.map Xe.e) t2 = tn := ⟨_, rfl⟩
                    obtain ⟨ta, hta⟩ : ∃ ta, tickA (P.map Xe.e) t2 = ta := ⟨_, rfl⟩
                    have hfew := tick_few (now := t2) Z4.out.a.few
                    have Hw := Lib.hid (And.intro htn hta)
                    unfold TickAt at XA
                    rw [htn, hta] at XA
                    rw [hta] at hfew
                    clear htn hta
                    obtain ⟨b0, b1, b2, b3, b4, b5, b6, b7, b8, b9⟩ := step_box M4.out
                    go_upto_region 25 with (go_at_call 16; (with_reducible refine XA.out.mono ?_); rintro e w5 ⟨dv, rfl, hO, hC, hD⟩; (have Z5 := Lib.hid (Z4.out.didA hC hD)); (have M5 := Lib.hid ((Z4.out.keepA hD G rfl).trans M4.out)); (have O5 := Lib.hid hO); clear hC hD hO)
                    clear b0 b1 b2 b3 b4 b5 b6 b7 b8 b9 XA
                    have XB := Lib.hid (rtick_any P t2 Ht2.out pb Fb v w5 Z5.out.b)
                    unfold RTickAt at XB
                    rw [Hw.out.1, Hw.out.2] at XB
                    go_upto_region 26 with (go_at_call 17; (with_reducible refine XB.out.mono ?_); rintro e w6 ⟨dv2, v6, F6, P6, rfl, hI, hm, hR, hD⟩; (have Z6 := Lib.hid (Z5.out.didB hR hD)); (have M6 := Lib.hid ((Z5.out.keepB hD G rfl).trans M5.out)); (have HM6 := Lib.hid hm); (have I6 := Lib.hid hI); (have O6 := Lib.hid (IpsAt.of (owns_at O5.out (fun g hg => hD.block g (O5.out.lt g hg).2 (fun hb => by have := (O5.out.lt g hg).1; have := Z4.out.b.flt g hb; omega))))); clear hR hD hm hI)
                    clear XB
                    have XT := Lib.hid (ips_any ta hfew dv dv2 w6 O6.out I6.out)
                    have qe2 : ((tn : Int) == (tn : Int)) = true := by simp
                    go_wp2_with (go_at_call 18; (with_reducible refine XT.out.mono ?_); rintro e w7 ⟨rfl, hB⟩; (have B7 := Lib.hid hB); clear hB)
                    go_meet
                    case rel => exact ⟨rfl, P6, _, _, _, by rw [HM6.out]; exact Z6.out.to B7.out, (B7.out.block G (Z6.out.lt G rfl)).trans M6.out⟩
                  · have r0 : (kd == 0) = false := by simp [h0]
                    have r1 : (kd == 1) = false := by simp [h1]
                    have r2 : (kd == 2) = false := by simp [h2]
                    have r3 : (kd == 3) = false := by simp [h3]
                    have r4 : (kd == 4) = false := by simp [h4]
                    clear h0 h1 h2 h3 h4
                    obtain ⟨b0, b1, b2, b3, b4, b5, b6, b7, b8, b9⟩ := step_box M4.out
                    go_wp2_with fail
                    go_meet
                    case rel => exact ⟨rfl, P, _, _, _, Z4.out, M4.out⟩
        case rest =>
          obtain ⟨rfl, P2, Fa2, Fb2, v2, hZ, hM⟩ := hcut
          have Z5 := Lib.hid hZ
          have M5 := Lib.hid hM
          clear hZ hM Z4 M4 R4 Hrw Hbs
          obtain ⟨b0, b1, b2, b3, b4, b5, b6, b7, b8, b9⟩ := step_box M5.out
          obtain ⟨⟨fm, fo⟩, hf⟩ : ∃ f, findL (P2.map Xe.e) ip t2 = f := ⟨_, rfl⟩
          have XA := Lib.hid (Z5.out.a.find (ip := ip) (now := t2) Hi.out Ht2.out)
          have XB := Lib.hid (fun W (hW : Below wc.heap.size wc W) => rFind_any P2 ip t2 Ht2.out pb Fb2 v2 W (Z5.out.b.below hW))
          rw [hf] at XA XB
          unfold Mc.val at XA XB
          simp only at XA XB
          clear hf
          go_upto_region 28 with (go_at_call 19; (with_reducible refine XA.out.mono ?_); rintro e w6 ⟨rfl, hB⟩; (have B6 := Lib.hid hB); clear hB)
          have B7 := Lib.hid (below_al B6.out (.cells #[.int .u8 fm.a, .int .u8 fm.b, .int .u8 fm.c, .int .u8 fm.d, .int .u8 fm.e, .int .u8 fm.f] 34))
          have M7 : Hid ((w6.alloc (.cells #[.int .u8 fm.a, .int .u8 fm.b, .int .u8 fm.c, .int .u8 fm.d, .int .u8 fm.e, .int .u8 fm.f] 34)).heap[w6.heap.size]? = some fm.obj) := Lib.hid (heap_alloc_new w6 fm.obj)
          generalize w6.alloc (.cells #[.int .u8 fm.a, .int .u8 fm.b, .int .u8 fm.c, .int .u8 fm.d, .int .u8 fm.e, .int .u8 fm.f] 34) = w7 at B7 M7 ⊢
          generalize w6.heap.size = G7 at M7 ⊢
          clear b0 b1 b2 b3 b4 b5 b6 b7 b8 b9 B6 XA
          have Z7 := Lib.hid (Z5.out.to B7.out)
          have N7 := Lib.hid ((B7.out.block G (Z5.out.lt G rfl)).trans M5.out)
          obtain ⟨b0, b1, b2, b3, b4, b5, b6, b7, b8, b9⟩ := step_box N7.out
          go_upto_region 29 with (go_at_call 20; (with_reducible refine (XB.out _ B7.out).mono ?_); rintro e w8 ⟨rfl, hB⟩; (have B8 := Lib.hid hB); clear hB)
          have B9 := Lib.hid (below_al B8.out (.cells #[.int .u8 fm.a, .int .u8 fm.b, .int .u8 fm.c, .int .u8 fm.d, .int .u8 fm.e, .int .u8 fm.f] 34))
          have M9 : Hid ((w8.alloc (.cells #[.int .u8 fm.a, .int .u8 fm.b, .int .u8 fm.c, .int .u8 fm.d, .int .u8 fm.e, .int .u8 fm.f] 34)).heap[w8.heap.size]? = some fm.obj) := Lib.hid (heap_alloc_new w8 fm.obj)
          generalize w8.alloc (.cells #[.int .u8 fm.a, .int .u8 fm.b, .int .u8 fm.c, .int .u8 fm.d, .int .u8 fm.e, .int .u8 fm.f] 34) = w9 at B9 M9 ⊢
          generalize w8.heap.size = G9 at M9 ⊢
          clear b0 b1 b2 b3 b4 b5 b6 b7 b8 b9 B8 XB
          have Z9 := Lib.hid (Z7.out.to B9.out)
          have N9 := Lib.hid ((B9.out.block G7 (Array.getElem?_eq_some_iff.1 M7.out).1).trans M7.out)
          obtain ⟨e0, e1, e2, e3, e4, e5⟩ := mac_box N9.out
          obtain ⟨f0, f1, f2, f3, f4, f5⟩ := mac_box M9.out
          obtain ⟨A2, c2, rfl, _⟩ := Z9.out.b.open
          have hp := Z9.out.b.cell
          have h32 := Z9.out.b.few
          have ez := fun n => mac_self fm (w9.drewN n)
          have qo : (fo != fo) = false := by simp
          have ql : ((P2.length : Int) != (P2.length : Int)) = false := by simp
          have XL : Hid (∀ n, Calls Try.prog 21 #[.pointer (some ⟨pa, 0, none⟩)] (w9.drewN n) fun e w' => e = .returned (.int .i64 (P2.length : Int)) ∧ w' = w9.drewN n) := Lib.hid (fun n => ((Z9.out.to (below_dN (Below.refl _ w9) n)).a.len).mono fun e w' ⟨h1, h2⟩ => ⟨by rw [h1, List.length_map], h2.symm⟩)
          clear Z7 N7 M7 B7 B9 M9 N9
          go_quiet ((go_at_call 21; exact Calls.quiet_of_same (XL.out _)))
          go_wp2_with fail
          exact ⟨⟨k + 1, t2, P2, rfl, by simp, by omega, Ht2.out, _, _, _, (Z9.out.to (below_dN (Below.refl _ w9) _)).drop (fun _ hk => hk.elim)⟩, by simp [intOf]; omega⟩
      · have q2 : decide ((k : Int) < 300) = false := decide_eq_false (by omega)
        go_wp2_with fail
        go_ret
        exact ⟨rfl, HZ.out.base⟩
    · have q1 : decide ((k : Int) < (M : Int)) = false := decide_eq_false (by omega)
      go_wp2_with fail
      go_ret
      exact ⟨rfl, HZ.out.base⟩
end Go.Proofs.Ytfeipeninmclkaa
