/-
  What is proved: CacheAgain by contract: the law returns true, and older memory is as it was.
  Conditions: none but those of the arguments.
-/
import Derived.Test.YtfeipeninmclkaaCaTwo
import Derived.Deep.DeepCutAuto
namespace Go.Proofs.Ytfeipeninmclkaa
open Go.RowKit

set_option maxRecDepth 100000 in
set_option maxHeartbeats 8000000 in
theorem cacheAgain_con (A : Option Addr) (M c : Nat) (w : World) (hMc : M ≤ c) (hc : c ≤ 9223372036854775807) (hS : StepsAt w A M) :
    Calls Try.prog 8 #[.slice A M c] w fun e w' => e = .returned (.bool true) ∧ Below w.heap.size w w' := by
  have X0 := Lib.hid (fun W => shown_any W)
  have HN := Lib.hid (fun W => new_any W)
  have HS := Lib.hid hS
  have XI := Lib.hid (fun l hl u v W hu hv => ips_any l hl u v W hu hv)
  have hM : M ≤ 9223372036854775807 := by omega
  clear hS hMc hc
  go_enter Try.func8, Try.ntmps8
  go_upto_region 3 with (first
    | (go_at_call 9; refine (X0.out _).mono ?_; rintro e w1 ⟨rfl, hB⟩; (have B1 := Lib.hid hB); clear hB)
    | (go_at_call 10; refine (HN.out _).mono ?_; rintro e w2 ⟨pa, rfl, hC, _, hB⟩; (have C2 := Lib.hid hC); (have B2 := Lib.hid hB); clear hC hB))
  go_upto_block 0 with (go_at_call 10; refine (HN.out _).mono ?_; rintro e w3 ⟨pb, rfl, hC, _, hB⟩; (have C3 := Lib.hid hC); (have B3 := Lib.hid hB); clear hC hB)
  have Z0 := Lib.hid (two_start B1.out C2.out B2.out C3.out B3.out)
  clear B1 C2 B2 C3 B3
  go_wp2_with fail
  go_loopw [6, 7] (fun s6 s7 wr => ∃ (k : Nat) (t : Int) (L : List En), s6 = .int .u64 t ∧ s7 = .int .i64 (k : Int) ∧ k ≤ M ∧ U64 t ∧ ∃ Fa Fb, Cz w (fun _ => False) wr pa Fa L pb Fb L) (fun _ s7 _ => M - (intOf s7).toNat)
  case atStart => exact ⟨0, 0, [], rfl, rfl, Nat.zero_le _, by unfold U64; omega, Z0.out⟩
  case round =>
    obtain ⟨k, t, L, rfl, rfl, hk, ht, Fa, Fb, hZ⟩ := hrel
    have HZ := Lib.hid hZ
    clear hZ Z0
    by_cases hlt : k < M
    · have q1 : decide ((k : Int) < (M : Int)) = true := decide_eq_true (by omega)
      by_cases h3 : k < 100
      · have q2 : decide ((k : Int) < 100) = true := decide_eq_true (by omega)
        obtain ⟨g1, o1, kd, ip, m, bs, b, B1, c1, rfl, hkd, hip, hbs, hb, hrd, c0, d1, d2, d3, d4, d5, d6, d7, d8, d9⟩ := HS.out.get hlt
        have Hi := Lib.hid hip
        have Hbs := Lib.hid hbs
        have Hrw := Lib.hid hrd
        have Hrd := Lib.hid (hrd.below HZ.out.base)
        have c0 := (HZ.out.base.cell (World.block_lt_of_cell? w _ c0)).trans c0
        have d1 := (HZ.out.base.cell (World.block_lt_of_cell? w _ d1)).trans d1
        have d2 := (HZ.out.base.cell (World.block_lt_of_cell? w _ d2)).trans d2
        have d3 := (HZ.out.base.cell (World.block_lt_of_cell? w _ d3)).trans d3
        have d4 := (HZ.out.base.cell (World.block_lt_of_cell? w _ d4)).trans d4
        have d5 := (HZ.out.base.cell (World.block_lt_of_cell? w _ d5)).trans d5
        have d6 := (HZ.out.base.cell (World.block_lt_of_cell? w _ d6)).trans d6
        have d7 := (HZ.out.base.cell (World.block_lt_of_cell? w _ d7)).trans d7
        have d8 := (HZ.out.base.cell (World.block_lt_of_cell? w _ d8)).trans d8
        have d9 := (HZ.out.base.cell (World.block_lt_of_cell? w _ d9)).trans d9
        have qb := wrap_by hb
        obtain ⟨t2, ht2⟩ : ∃ t2, IntKind.u64.wrap (t + b) = t2 := ⟨_, rfl⟩
        have Ht2 : Hid (U64 t2) := Lib.hid (ht2 ▸ wrap_u _)
        clear hip hbs hb hrd
        go_upto_block 2 with (refine wpList_store_row rfl 37 (.tmp 8) (.tmp 46) rfl wr.heap.size #[.int .i64 kd, .int .u32 ip, .int .u8 m.a, .int .u8 m.b, .int .u8 m.c, .int .u8 m.d, .int .u8 m.e, .int .u8 m.f, .slice B1 bs.length c1, .int .u8 b] rfl rfl 37 _ (heap_alloc_new wr _) stepSize rfl (step_one _ _ _ _ _ _ _) ?_; rw [setRow_alloc])
        have D4 := Lib.hid ((Below.refl _ wr).alloc (Nat.le_refl _) (.cells #[.int .i64 kd, .int .u32 ip, .int .u8 m.a, .int .u8 m.b, .int .u8 m.c, .int .u8 m.d, .int .u8 m.e, .int .u8 m.f, .slice B1 bs.length c1, .int .u8 b] 37))
        have Z4 := Lib.hid (HZ.out.beside (g := wr.heap.size) D4.out (Nat.le_refl _) (by simp))
        have M4 : Hid ((wr.alloc (.cells #[.int .i64 kd, .int .u32 ip, .int .u8 m.a, .int .u8 m.b, .int .u8 m.c, .int .u8 m.d, .int .u8 m.e, .int .u8 m.f, .slice B1 bs.length c1, .int .u8 b] 37)).heap[wr.heap.size]? = some (stObj kd ip m (.slice B1 bs.length c1) b)) := Lib.hid (heap_alloc_new wr (stObj kd ip m (.slice B1 bs.length c1) b))
        have R4 := Lib.hid (Hrd.out.below D4.out)
        have PG : Hid (w.heap.size ≤ wr.heap.size) := Lib.hid HZ.out.base.size
        generalize wr.alloc (.cells #[.int .i64 kd, .int .u32 ip, .int .u8 m.a, .int .u8 m.b, .int .u8 m.c, .int .u8 m.d, .int .u8 m.e, .int .u8 m.f, .slice B1 bs.length c1, .int .u8 b] 37) = w4 at D4 Z4 M4 R4 ⊢
        generalize wr.heap.size = G at Z4 M4 PG ⊢
        clear D4 c0 d1 d2 d3 d4 d5 d6 d7 d8 d9 Hrd qb
        obtain ⟨b0, b1, b2, b3, b4, b5, b6, b7, b8, b9⟩ := step_box M4.out
        by_cases h0 : kd = 0
        · subst h0
          obtain ⟨wa, hwa⟩ : ∃ wa, waitA L ip t2 = wa := ⟨_, rfl⟩
          obtain ⟨wc, hwc⟩ : ∃ wc, waitC L ip t2 = wc := ⟨_, rfl⟩
          have Hw := Lib.hid (And.intro hwa hwc)
          clear hwa hwc
          obtain ⟨gp, cp, w5, hrun, hgp1, hgp2, hPR, hRp, hB5⟩ := app_copy w4 R4.out Hbs.out 35
          have ER := Lib.hid hrun
          have Z5 := Lib.hid (Z4.out.beside (g := gp) hB5 hgp1 hgp2)
          have PR5 := Lib.hid hPR
          have RP5 := Lib.hid hRp
          have M5 := Lib.hid ((hB5.block G (Z4.out.lt G (Or.inr rfl))).trans M4.out)
          have PGp : Hid (w.heap.size ≤ gp) := Lib.hid (Nat.le_trans Z4.out.base.size hgp1)
          have NG : Hid (G ≠ gp) := Lib.hid (by have := Z4.out.lt G (Or.inr rfl); omega)
          clear hrun hgp1 hgp2 hPR hRp hB5
          have a8 : (w4.alloc (.cells #[] 5)).cell? ⟨G, 8, none⟩ = some (.slice B1 bs.length c1) := (((Below.refl _ w4).alloc (Nat.le_refl _) (.cells #[] 5)).cell (World.block_lt_of_cell? w4 _ b8)).trans b8
          go_upto_region 16 with (at_builtin; refine wpList_append_eq rfl (.tmp 57) (.tmp 59) 35 rfl _ _ rfl rfl _ _ ER.out ?_)
          clear a8 ER R4 M4 Z4 b0 b1 b2 b3 b4 b5 b6 b7 b8 b9
          obtain ⟨b0, b1, b2, b3, b4, b5, b6, b7, b8, b9⟩ := step_box M5.out
          have XA := Lib.hid (Z5.out.a.wait (ip := ip) (now := t2) Hi.out Ht2.out Hbs.out RP5.out)
          unfold WaitAt at XA
          rw [Hw.out.1, Hw.out.2] at XA
          go_upto_region 17 with (go_at_call 11; (with_reducible refine XA.out.mono ?_); rintro e w6 ⟨Fa2, rfl, hC, hD, _⟩; (have Z6 := Lib.hid (Z5.out.did hC hD)); (have M6 := Lib.hid ((Z5.out.keep hD G (Or.inl (Or.inr rfl))).trans M5.out)); (have PR6 := Lib.hid (PR5.out.at (Z5.out.keep hD gp (Or.inr rfl)))); clear hC hD)
          clear XA b0 b1 b2 b3 b4 b5 b6 b7 b8 b9 M5 PR5 RP5 Z5
          have hbs2 := Hbs.out
          go_wp2_with fail
          go_loopw [12] (fun s12 wx => ∃ j : Nat, s12 = .int .i64 (j : Int) ∧ j ≤ bs.length ∧ Cz w (fun k => (False ∨ k = G) ∨ k = gp) wx pa Fa2 (waitL L ip t2 bs) pb Fb L ∧ PRow wx gp bs.length ∧ wx.heap[G]? = some (stObj 0 ip m (.slice B1 bs.length c1) b)) (fun s12 _ => bs.length - (intOf s12).toNat)
          case atStart => exact ⟨0, rfl, Nat.zero_le _, Z6.out, PR6.out, M6.out⟩
          case round =>
            obtain ⟨j, rfl, hj, hZ, hP, hM6⟩ := hrel
            have Z7 := Lib.hid hZ
            have P7 := Lib.hid hP
            have M7 := Lib.hid hM6
            clear hZ hP hM6 Z6 PR6 M6
            by_cases hjl : j < bs.length
            · have r1 : decide ((j : Int) < (bs.length : Int)) = true := decide_eq_true (by omega)
              obtain ⟨y, hy, hf⟩ := P7.out.get hjl
              go_wp2_with fail
              exact ⟨⟨j + 1, by simp, by omega, Z7.out.turn (g := gp) rfl rfl rfl (by simp [World.setCell]) set_frame PGp.out (Or.inr rfl), P7.out.set _, (set_frame G (Z7.out.lt G (Or.inl (Or.inr rfl))) NG.out).trans M7.out⟩, by simp [intOf]; omega⟩
            · have r1 : decide ((j : Int) < (bs.length : Int)) = false := decide_eq_false (by omega)
              obtain ⟨b0, b1, b2, b3, b4, b5, b6, b7, b8, b9⟩ := step_box M7.out
              have XB := Lib.hid (Z7.out.b.wait (ip := ip) (now := t2) Hi.out Ht2.out Hbs.out (Hrw.out.below Z7.out.base))
              unfold WaitAt at XB
              rw [Hw.out.1, Hw.out.2] at XB
              go_wp2_with (go_at_call 11; (with_reducible refine XB.out.mono ?_); rintro e w8 ⟨Fb2, rfl, hC, hD, _⟩; (have Z8 := Lib.hid (Z7.out.swap.did hC hD)); clear hC hD)
              exact ⟨⟨k + 1, t2, _, rfl, by simp, by omega, Ht2.out, _, _, (Z8.out.swap.drop (fun _ hk => hk.elim))⟩, by simp [intOf]; omega⟩
        · by_cases h1 : kd = 1
          · subst h1
            obtain ⟨wa, hwa⟩ : ∃ wa, waitA L ip t2 = wa := ⟨_, rfl⟩
            obtain ⟨wc, hwc⟩ : ∃ wc, waitC L ip t2 = wc := ⟨_, rfl⟩
            have Hw := Lib.hid (And.intro hwa hwc)
            clear hwa hwc
            obtain ⟨gp, cp, w5, hrun, hgp1, hgp2, hPR, hRp, hB5⟩ := app_copy w4 R4.out Hbs.out 35
            have ER := Lib.hid hrun
            have Z5 := Lib.hid (Z4.out.beside (g := gp) hB5 hgp1 hgp2)
            have PR5 := Lib.hid hPR
            have RP5 := Lib.hid hRp
            have M5 := Lib.hid ((hB5.block G (Z4.out.lt G (Or.inr rfl))).trans M4.out)
            have PGp : Hid (w.heap.size ≤ gp) := Lib.hid (Nat.le_trans Z4.out.base.size hgp1)
            have NG : Hid (G ≠ gp) := Lib.hid (by have := Z4.out.lt G (Or.inr rfl); omega)
            clear hrun hgp1 hgp2 hPR hRp hB5
            have a8 : (w4.alloc (.cells #[] 5)).cell? ⟨G, 8, none⟩ = some (.slice B1 bs.length c1) := (((Below.refl _ w4).alloc (Nat.le_refl _) (.cells #[] 5)).cell (World.block_lt_of_cell? w4 _ b8)).trans b8
            go_upto_region 16 with (at_builtin; refine wpList_append_eq rfl (.tmp 57) (.tmp 59) 35 rfl _ _ rfl rfl _ _ ER.out ?_)
            clear a8 ER R4 M4 Z4 b0 b1 b2 b3 b4 b5 b6 b7 b8 b9
            obtain ⟨b0, b1, b2, b3, b4, b5, b6, b7, b8, b9⟩ := step_box M5.out
            have XA := Lib.hid (Z5.out.a.wait (ip := ip) (now := t2) Hi.out Ht2.out Hbs.out RP5.out)
            unfold WaitAt at XA
            rw [Hw.out.1, Hw.out.2] at XA
            go_upto_region 17 with (go_at_call 11; (with_reducible refine XA.out.mono ?_); rintro e w6 ⟨Fa2, rfl, hC, hD, _⟩; (have Z6 := Lib.hid (Z5.out.did hC hD)); (have M6 := Lib.hid ((Z5.out.keep hD G (Or.inl (Or.inr rfl))).trans M5.out)); (have PR6 := Lib.hid (PR5.out.at (Z5.out.keep hD gp (Or.inr rfl)))); clear hC hD)
            clear XA b0 b1 b2 b3 b4 b5 b6 b7 b8 b9 M5 PR5 RP5 Z5
            have hbs2 := Hbs.out
            go_wp2_with fail
            go_loopw [12] (fun s12 wx => ∃ j : Nat, s12 = .int .i64 (j : Int) ∧ j ≤ bs.length ∧ Cz w (fun k => (False ∨ k = G) ∨ k = gp) wx pa Fa2 (waitL L ip t2 bs) pb Fb L ∧ PRow wx gp bs.length ∧ wx.heap[G]? = some (stObj 1 ip m (.slice B1 bs.length c1) b)) (fun s12 _ => bs.length - (intOf s12).toNat)
            case atStart => exact ⟨0, rfl, Nat.zero_le _, Z6.out, PR6.out, M6.out⟩
            case round =>
              obtain ⟨j, rfl, hj, hZ, hP, hM6⟩ := hrel
              have Z7 := Lib.hid hZ
              have P7 := Lib.hid hP
              have M7 := Lib.hid hM6
              clear hZ hP hM6 Z6 PR6 M6
              by_cases hjl : j < bs.length
              · have r1 : decide ((j : Int) < (bs.length : Int)) = true := decide_eq_true (by omega)
                obtain ⟨y, hy, hf⟩ := P7.out.get hjl
                go_wp2_with fail
                exact ⟨⟨j + 1, by simp, by omega, Z7.out.turn (g := gp) rfl rfl rfl (by simp [World.setCell]) set_frame PGp.out (Or.inr rfl), P7.out.set _, (set_frame G (Z7.out.lt G (Or.inl (Or.inr rfl))) NG.out).trans M7.out⟩, by simp [intOf]; omega⟩
              · have r1 : decide ((j : Int) < (bs.length : Int)) = false := decide_eq_false (by omega)
                obtain ⟨b0, b1, b2, b3, b4, b5, b6, b7, b8, b9⟩ := step_box M7.out
                have XB := Lib.hid (Z7.out.b.wait (ip := ip) (now := t2) Hi.out Ht2.out Hbs.out (Hrw.out.below Z7.out.base))
                unfold WaitAt at XB
                rw [Hw.out.1, Hw.out.2] at XB
                go_wp2_with (go_at_call 11; (with_reducible refine XB.out.mono ?_); rintro e w8 ⟨Fb2, rfl, hC, hD, _⟩; (have Z8 := Lib.hid (Z7.out.swap.did hC hD)); clear hC hD)
                exact ⟨⟨k + 1, t2, _, rfl, by simp, by omega, Ht2.out, _, _, (Z8.out.swap.drop (fun _ hk => hk.elim))⟩, by simp [intOf]; omega⟩
          · by_cases h2 : kd = 2
            · subst h2
              have XA := Lib.hid (Z4.out.a.learn (ip := ip) (now := t2) (m := m) Hi.out Ht2.out)
              unfold LearnAt Mc.val at XA
              have lf := Lib.hid (learn_few (ip := ip) Z4.out.a.ok)
              go_upto_region 27 with (go_at_call 13; (with_reducible refine XA.out.mono ?_); rintro e w5 ⟨sv, rfl, hP, hC, hD⟩; (have Z5 := Lib.hid (Z4.out.did hC hD)); (have M5 := Lib.hid ((Z4.out.keep hD G (Or.inr rfl)).trans M4.out)); (have P5 := Lib.hid hP); clear hC hD hP)
              clear XA b0 b1 b2 b3 b4 b5 b6 b7 b8 b9
              obtain ⟨b0, b1, b2, b3, b4, b5, b6, b7, b8, b9⟩ := step_box M5.out
              have XB := Lib.hid (Z5.out.b.learn (ip := ip) (now := t2) (m := m) Hi.out Ht2.out)
              unfold LearnAt Mc.val at XB
              go_upto_region 28 with (go_at_call 13; (with_reducible refine XB.out.mono ?_); rintro e w6 ⟨sv2, rfl, hP, hC, hD⟩; (have Z6 := Lib.hid (Z5.out.swap.did hC hD)); (have P6 := Lib.hid hP); (have P7 := Lib.hid (P5.out.at (w' := w6) (fun k hf _ => hD.block k (Z5.out.a.flt k hf) (fun hb => Z5.out.dis k hf hb)))); clear hC hD hP)
              clear XB b0 b1 b2 b3 b4 b5 b6 b7 b8 b9 M5 P5 Z5 M4 R4
              have T7 := Lib.hid P7.out.texts
              have T6 := Lib.hid P6.out.texts
              obtain ⟨A7, c7, rfl⟩ := P7.out.shape
              obtain ⟨A6, c6, rfl⟩ := P6.out.shape
              obtain ⟨ls, hls⟩ : ∃ ls, learnP L ip = ls := ⟨_, rfl⟩
              rw [hls] at T6 T7 lf ⊢
              clear P6 P7 hls
              have lf2 := lf.out
              go_wp2_with fail
              go_loopw [19] (fun s19 wx => ∃ j : Nat, s19 = .int .i64 (j : Int) ∧ j ≤ ls.length ∧ Below w6.heap.size w6 wx) (fun s19 _ => ls.length - (intOf s19).toNat)
              case atStart => exact ⟨0, rfl, Nat.zero_le _, Below.refl _ _⟩
              case round =>
                obtain ⟨j, rfl, hj, hB⟩ := hrel
                have HB := Lib.hid hB
                clear hB
                by_cases hjl : j < ls.length
                · have r1 : decide ((j : Int) < (ls.length : Int)) = true := decide_eq_true (by omega)
                  have hx : ls[j]? = some ls[j] := List.getElem?_eq_getElem hjl
                  obtain ⟨g7, y7, e7, z7, f7, hv7, hr7⟩ := T7.out j _ hx
                  obtain ⟨g6, y6, e6, z6, f6, hv6, hr6⟩ := T6.out j _ hx
                  obtain ⟨rfl, _⟩ := slice_inj e7
                  obtain ⟨rfl, _⟩ := slice_inj e6
                  generalize ls[j] = x at hv7 hr7 hv6 hr6
                  have hv7 := (HB.out.cell (World.block_lt_of_cell? w6 _ hv7)).trans hv7
                  have hv6 := (HB.out.cell (World.block_lt_of_cell? w6 _ hv6)).trans hv6
                  have k7 := fun n => convert_rd (hr7.below (below_dN HB.out n))
                  have k6 := fun n => convert_rd (hr6.below (below_dN HB.out n))
                  clear hx hr7 hr6 e7 e6
                  go_upto_region 33 with fail
                  go_quiet (fail)
                  go_wp2_with fail
                  exact ⟨⟨j + 1, by simp, by omega, below_dN HB.out _⟩, by simp [intOf]; omega⟩
                · have r1 : decide ((j : Int) < (ls.length : Int)) = false := decide_eq_false (by omega)
                  go_wp2_with fail
                  exact ⟨⟨k + 1, t2, _, rfl, by simp, by omega, Ht2.out, _, _, ((Z6.out.swap.to HB.out).drop (fun _ hk => hk.elim))⟩, by simp [intOf]; omega⟩
            · by_cases h3 : kd = 3
              · subst h3
                have XA := Lib.hid (Z4.out.a.learn (ip := ip) (now := t2) (m := m) Hi.out Ht2.out)
                unfold LearnAt Mc.val at XA
                have lf := Lib.hid (learn_few (ip := ip) Z4.out.a.ok)
                go_upto_region 27 with (go_at_call 13; (with_reducible refine XA.out.mono ?_); rintro e w5 ⟨sv, rfl, hP, hC, hD⟩; (have Z5 := Lib.hid (Z4.out.did hC hD)); (have M5 := Lib.hid ((Z4.out.keep hD G (Or.inr rfl)).trans M4.out)); (have P5 := Lib.hid hP); clear hC hD hP)
                clear XA b0 b1 b2 b3 b4 b5 b6 b7 b8 b9
                obtain ⟨b0, b1, b2, b3, b4, b5, b6, b7, b8, b9⟩ := step_box M5.out
                have XB := Lib.hid (Z5.out.b.learn (ip := ip) (now := t2) (m := m) Hi.out Ht2.out)
                unfold LearnAt Mc.val at XB
                go_upto_region 28 with (go_at_call 13; (with_reducible refine XB.out.mono ?_); rintro e w6 ⟨sv2, rfl, hP, hC, hD⟩; (have Z6 := Lib.hid (Z5.out.swap.did hC hD)); (have P6 := Lib.hid hP); (have P7 := Lib.hid (P5.out.at (w' := w6) (fun k hf _ => hD.block k (Z5.out.a.flt k hf) (fun hb => Z5.out.dis k hf hb)))); clear hC hD hP)
                clear XB b0 b1 b2 b3 b4 b5 b6 b7 b8 b9 M5 P5 Z5 M4 R4
                have T7 := Lib.hid P7.out.texts
                have T6 := Lib.hid P6.out.texts
                obtain ⟨A7, c7, rfl⟩ := P7.out.shape
                obtain ⟨A6, c6, rfl⟩ := P6.out.shape
                obtain ⟨ls, hls⟩ : ∃ ls, learnP L ip = ls := ⟨_, rfl⟩
                rw [hls] at T6 T7 lf ⊢
                clear P6 P7 hls
                have lf2 := lf.out
                go_wp2_with fail
                go_loopw [19] (fun s19 wx => ∃ j : Nat, s19 = .int .i64 (j : Int) ∧ j ≤ ls.length ∧ Below w6.heap.size w6 wx) (fun s19 _ => ls.length - (intOf s19).toNat)
                case atStart => exact ⟨0, rfl, Nat.zero_le _, Below.refl _ _⟩
                case round =>
                  obtain ⟨j, rfl, hj, hB⟩ := hrel
                  have HB := Lib.hid hB
                  clear hB
                  by_cases hjl : j < ls.length
                  · have r1 : decide ((j : Int) < (ls.length : Int)) = true := decide_eq_true (by omega)
                    have hx : ls[j]? = some ls[j] := List.getElem?_eq_getElem hjl
                    obtain ⟨g7, y7, e7, z7, f7, hv7, hr7⟩ := T7.out j _ hx
                    obtain ⟨g6, y6, e6, z6, f6, hv6, hr6⟩ := T6.out j _ hx
                    obtain ⟨rfl, _⟩ := slice_inj e7
                    obtain ⟨rfl, _⟩ := slice_inj e6
                    generalize ls[j] = x at hv7 hr7 hv6 hr6
                    have hv7 := (HB.out.cell (World.block_lt_of_cell? w6 _ hv7)).trans hv7
                    have hv6 := (HB.out.cell (World.block_lt_of_cell? w6 _ hv6)).trans hv6
                    have k7 := fun n => convert_rd (hr7.below (below_dN HB.out n))
                    have k6 := fun n => convert_rd (hr6.below (below_dN HB.out n))
                    clear hx hr7 hr6 e7 e6
                    go_upto_region 33 with fail
                    go_quiet (fail)
                    go_wp2_with fail
                    exact ⟨⟨j + 1, by simp, by omega, below_dN HB.out _⟩, by simp [intOf]; omega⟩
                  · have r1 : decide ((j : Int) < (ls.length : Int)) = false := decide_eq_false (by omega)
                    go_wp2_with fail
                    exact ⟨⟨k + 1, t2, _, rfl, by simp, by omega, Ht2.out, _, _, ((Z6.out.swap.to HB.out).drop (fun _ hk => hk.elim))⟩, by simp [intOf]; omega⟩
              · by_cases h4 : kd = 4
                · subst h4
                  have XA := Lib.hid (Z4.out.a.tick (now := t2) Ht2.out)
                  have hl := Lib.hid (tick_few Z4.out.a.few (now := t2))
                  go_upto_region 37 with (go_at_call 16; (with_reducible refine XA.out.mono ?_); rintro e w5 ⟨dv, rfl, hO, hC, hD⟩; (have Z5 := Lib.hid (Z4.out.did hC hD)); (have Y5 := Lib.hid (IpsAt.of hO)); (have O5 := Lib.hid hO); clear hC hD hO)
                  have XB := Lib.hid (Z5.out.b.tick (now := t2) Ht2.out)
                  go_upto_region 38 with (go_at_call 16; (with_reducible refine XB.out.mono ?_); rintro e w6 ⟨dv2, rfl, hO, hC, hD⟩; (have Z6 := Lib.hid (Z5.out.swap.did hC hD)); (have Y6 := Lib.hid (IpsAt.of hO)); (have Y7 := Lib.hid (IpsAt.of (owns_at O5.out (fun g hg => hD.block g (O5.out.lt g hg).2 (fun hf => by have := Z4.out.b.flt g hf; have := (O5.out.lt g hg).1; omega))))); clear hC hD hO)
                  go_wp2_with (go_at_call 18; (with_reducible refine (XI.out _ hl.out _ _ _ Y7.out Y6.out).mono ?_); rintro e w7 ⟨rfl, hB⟩; (have B7 := Lib.hid hB); clear hB)
                  exact ⟨⟨k + 1, t2, _, rfl, by simp, by omega, Ht2.out, _, _, ((Z6.out.swap.to B7.out).drop (fun _ hk => hk.elim))⟩, by simp [intOf]; omega⟩
                · have r0 : (kd == 0) = false := by simp [h0]
                  have r1 : (kd == 1) = false := by simp [h1]
                  have r2 : (kd == 2) = false := by simp [h2]
                  have r3 : (kd == 3) = false := by simp [h3]
                  have r4 : (kd == 4) = false := by simp [h4]
                  clear h0 h1 h2 h3 h4
                  go_wp2_with fail
                  exact ⟨⟨k + 1, t2, L, rfl, by simp, by omega, Ht2.out, _, _, Z4.out.drop (fun _ hk => hk.elim)⟩, by simp [intOf]; omega⟩
      · have q2 : decide ((k : Int) < 100) = false := decide_eq_false (by omega)
        have XL := Lib.hid HZ.out.a.len
        have XL2 := Lib.hid HZ.out.b.len
        go_wp2_with (first
          | (go_at_call_of 21 (Value.pointer (some ⟨pa, 0, none⟩)); (with_reducible refine XL.out.mono ?_); rintro e w5 ⟨rfl, rfl⟩)
          | (go_at_call_of 21 (Value.pointer (some ⟨pb, 0, none⟩)); (with_reducible refine XL2.out.mono ?_); rintro e w6 ⟨rfl, rfl⟩))
        go_ret
        exact ⟨rfl, HZ.out.base⟩
    · have q1 : decide ((k : Int) < (M : Int)) = false := decide_eq_false (by omega)
      have XL := Lib.hid HZ.out.a.len
      have XL2 := Lib.hid HZ.out.b.len
      go_wp2_with (first
        | (go_at_call_of 21 (Value.pointer (some ⟨pa, 0, none⟩)); (with_reducible refine XL.out.mono ?_); rintro e w5 ⟨rfl, rfl⟩)
        | (go_at_call_of 21 (Value.pointer (some ⟨pb, 0, none⟩)); (with_reducible refine XL2.out.mono ?_); rintro e w6 ⟨rfl, rfl⟩))
      go_ret
      exact ⟨rfl, HZ.out.base⟩
end Go.Proofs.Ytfeipeninmclkaa
