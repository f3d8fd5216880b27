/-
  What is proved: CacheKnows by contract: the law returns true, and older memory is as it was.
  Conditions: none but those of the arguments.
-/
import Derived.Test.YtfeipeninmclkaaCaKnowsL
import Derived.Deep.DeepCutAuto
namespace Go.Proofs.Ytfeipeninmclkaa
open Go.RowKit

set_option maxRecDepth 100000 in
set_option maxHeartbeats 8000000 in
theorem cacheKnows_con (A : Option Addr) (M c : Nat) (x1 : Int) (m : Mc) (x3 : Int) (w : World) (hMc : M ≤ c) (hc : c ≤ 9223372036854775807) (hS : StepsAt w A M) (hip : U32 x1) (hx3 : U8 x3) :
    Calls Try.prog 7 #[.slice A M c, .int .u32 x1, m.val, .int .u8 x3] w fun e w' => e = .returned (.bool true) ∧ Below w.heap.size w w' := by
  have X0 := Lib.hid (fun W => shown_any W)
  have HN := Lib.hid (fun W W1 (h : Below W.heap.size W W1) => new_cx W W1 h)
  have HS := Lib.hid hS
  have Hip := Lib.hid hip
  have Hx3 := Lib.hid hx3
  have hM : M ≤ 9223372036854775807 := by omega
  clear hS hMc hc hip hx3
  unfold Mc.val
  go_enter Try.func7, Try.ntmps7
  have D0 := Lib.hid ((Below.refl _ w).alloc (Nat.le_refl _) (.cells #[.int .u8 m.a, .int .u8 m.b, .int .u8 m.c, .int .u8 m.d, .int .u8 m.e, .int .u8 m.f] 34))
  have M0 : Hid ((w.alloc (.cells #[.int .u8 m.a, .int .u8 m.b, .int .u8 m.c, .int .u8 m.d, .int .u8 m.e, .int .u8 m.f] 34)).heap[w.heap.size]? = some m.obj) := Lib.hid (heap_alloc_new w m.obj)
  have S0 : Hid (w.heap.size < (w.alloc (.cells #[.int .u8 m.a, .int .u8 m.b, .int .u8 m.c, .int .u8 m.d, .int .u8 m.e, .int .u8 m.f] 34)).heap.size) := Lib.hid (by simp)
  go_upto_region 1 with fail
  generalize w.alloc (.cells #[.int .u8 m.a, .int .u8 m.b, .int .u8 m.c, .int .u8 m.d, .int .u8 m.e, .int .u8 m.f] 34) = w0 at D0 M0 S0 ⊢
  go_upto_block 0 with (first
    | (go_at_call 9; refine (X0.out _).mono ?_; rintro e w1 ⟨rfl, hB⟩; (have B1 := Lib.hid hB); clear hB)
    | (go_at_call 10; refine (HN.out w0 _ B1.out).mono ?_; rintro e w2 ⟨p, rfl, hC, _⟩; (have C0 := Lib.hid hC); clear hC))
  clear B1
  go_cut [11, 12] (fun s11 _ wx => ∃ (t : Int) (L : List En), s11 = .int .u64 t ∧ 0 ≤ t ∧ t ≤ 51000 ∧ Cx w0 (fun _ => False) wx p L)
  case first =>
    go_wp2_with fail
    go_loopw [11, 12] (fun s11 s12 wr => ∃ (k : Nat) (t : Int) (L : List En), s11 = .int .u64 t ∧ s12 = .int .i64 (k : Int) ∧ k ≤ M ∧ k ≤ 200 ∧ 0 ≤ t ∧ t ≤ 255 * (k : Int) ∧ Cx w0 (fun _ => False) wr p L) (fun _ s12 _ => M - (intOf s12).toNat)
    case atStart => exact ⟨0, 0, [], rfl, rfl, Nat.zero_le _, Nat.zero_le _, by omega, by omega, C0.out⟩
    case round =>
      obtain ⟨k, t, L, rfl, rfl, hk, hk2, ht0, ht1, hC⟩ := hrel
      have HC := Lib.hid hC
      have HB := Lib.hid (below_to D0.out hC.base D0.out.size)
      clear hC C0
      by_cases hlt : k < M
      · have q1 : decide ((k : Int) < (M : Int)) = true := decide_eq_true (by omega)
        by_cases h3 : k < 200
        · have q2 : decide ((k : Int) < 200) = true := decide_eq_true (by omega)
          obtain ⟨g1, o1, kd, ip, m1, bs, b, B1, c1, rfl, hkd, hip, hbs, hb, hrd, c0, d1, d2, d3, d4, d5, d6, d7, d8, d9⟩ := HS.out.get hlt
          have Hi := Lib.hid hip
          have Hbs := Lib.hid hbs
          have Hrd := Lib.hid (hrd.below HB.out)
          have KS : Hid (∀ W, Below w.heap.size w W → W.cell? ⟨g1, o1 + k * 10 + 1, none⟩ = some (.int .u32 ip) ∧ W.cell? ⟨g1, o1 + k * 10 + 2, none⟩ = some (.int .u8 m1.a) ∧ W.cell? ⟨g1, o1 + k * 10 + 3, none⟩ = some (.int .u8 m1.b) ∧ W.cell? ⟨g1, o1 + k * 10 + 4, none⟩ = some (.int .u8 m1.c) ∧ W.cell? ⟨g1, o1 + k * 10 + 5, none⟩ = some (.int .u8 m1.d) ∧ W.cell? ⟨g1, o1 + k * 10 + 6, none⟩ = some (.int .u8 m1.e) ∧ W.cell? ⟨g1, o1 + k * 10 + 7, none⟩ = some (.int .u8 m1.f) ∧ W.cell? ⟨g1, o1 + k * 10 + 8, none⟩ = some (.slice B1 bs.length c1)) := Lib.hid (fun W hW => ⟨(hW.cell (World.block_lt_of_cell? w _ d1)).trans d1, (hW.cell (World.block_lt_of_cell? w _ d2)).trans d2, (hW.cell (World.block_lt_of_cell? w _ d3)).trans d3, (hW.cell (World.block_lt_of_cell? w _ d4)).trans d4, (hW.cell (World.block_lt_of_cell? w _ d5)).trans d5, (hW.cell (World.block_lt_of_cell? w _ d6)).trans d6, (hW.cell (World.block_lt_of_cell? w _ d7)).trans d7, (hW.cell (World.block_lt_of_cell? w _ d8)).trans d8⟩)
          have c0 := (HB.out.cell (World.block_lt_of_cell? w _ c0)).trans c0
          have d9 := (HB.out.cell (World.block_lt_of_cell? w _ d9)).trans d9
          have qb := wrap_by hb
          have hb0 : 0 ≤ b ∧ b < 256 := hb
          have qt : IntKind.u64.wrap (t + b) = t + b := by rw [IntKind.wrap_u64]; omega
          have Ht2 : Hid (U64 (t + b)) := Lib.hid (by unfold U64; omega)
          have XW := Lib.hid (fun W (hW : Below wr.heap.size wr W) => (HC.out.to hW).wait (now := t + b) Hi.out Ht2.out Hbs.out (Hrd.out.below hW))
          have XL := Lib.hid (fun W (hW : Below wr.heap.size wr W) => (HC.out.to hW).learn (now := t + b) (m := m1) Hi.out Ht2.out)
          have XT := Lib.hid (HC.out.tick (now := t + b) Ht2.out)
          unfold Mc.val at XL
          clear hip hbs hb hrd
          go_upto_block 2 with fail
          by_cases h0 : kd = 0
          · subst h0
            clear XL XT
            have SF : Hid (∀ W, Below wr.heap.size wr W → W.cell? ⟨g1, o1 + k * 10 + 1, none⟩ = some (.int .u32 ip) ∧ W.cell? ⟨g1, o1 + k * 10 + 8, none⟩ = some (.slice B1 bs.length c1)) := Lib.hid (fun W hW => ⟨(KS.out W (below_to HB.out hW HB.out.size)).1, (KS.out W (below_to HB.out hW HB.out.size)).2.2.2.2.2.2.2⟩)
            clear d1 d2 d3 d4 d5 d6 d7 d8
            go_upto_region 13 with fail
            go_region_held (fun W => W.cell? ⟨g1, o1 + k * 10 + 1, none⟩ = some (.int .u32 ip) ∧ W.cell? ⟨g1, o1 + k * 10 + 8, none⟩ = some (.slice B1 bs.length c1)) (first | exact SF.out _ (Below.refl _ _).drew | exact SF.out _ (Below.refl _ _) | exact ⟨(KS.out _ B5.out).1, (KS.out _ B5.out).2.2.2.2.2.2.2⟩) (first | (go_at_call 11; (with_reducible refine (XW.out _ ?_).mono ?_); (exact (Below.refl _ _).drew); rintro e w5 ⟨rfl, hC, _⟩; (have C5 := Lib.hid hC); (have B5 := Lib.hid (below_to D0.out hC.base D0.out.size)); clear hC))
            go_wp2_with fail
            exact ⟨⟨k + 1, t + b, _, rfl, by simp, by omega, by omega, by omega, by omega, C5.out⟩, by simp [intOf]; omega⟩
          · by_cases h1 : kd = 1
            · subst h1
              clear XL XT
              have SF : Hid (∀ W, Below wr.heap.size wr W → W.cell? ⟨g1, o1 + k * 10 + 1, none⟩ = some (.int .u32 ip) ∧ W.cell? ⟨g1, o1 + k * 10 + 8, none⟩ = some (.slice B1 bs.length c1)) := Lib.hid (fun W hW => ⟨(KS.out W (below_to HB.out hW HB.out.size)).1, (KS.out W (below_to HB.out hW HB.out.size)).2.2.2.2.2.2.2⟩)
              clear d1 d2 d3 d4 d5 d6 d7 d8
              go_upto_region 13 with fail
              go_region_held (fun W => W.cell? ⟨g1, o1 + k * 10 + 1, none⟩ = some (.int .u32 ip) ∧ W.cell? ⟨g1, o1 + k * 10 + 8, none⟩ = some (.slice B1 bs.length c1)) (first | exact SF.out _ (Below.refl _ _).drew | exact SF.out _ (Below.refl _ _) | exact ⟨(KS.out _ B5.out).1, (KS.out _ B5.out).2.2.2.2.2.2.2⟩) (first | (go_at_call 11; (with_reducible refine (XW.out _ ?_).mono ?_); (exact (Below.refl _ _).drew); rintro e w5 ⟨rfl, hC, _⟩; (have C5 := Lib.hid hC); (have B5 := Lib.hid (below_to D0.out hC.base D0.out.size)); clear hC))
              go_wp2_with fail
              exact ⟨⟨k + 1, t + b, _, rfl, by simp, by omega, by omega, by omega, by omega, C5.out⟩, by simp [intOf]; omega⟩
            · by_cases h2 : kd = 2
              · subst h2
                clear XW XT
                have SF : Hid (∀ W, Below wr.heap.size wr W → W.cell? ⟨g1, o1 + k * 10 + 1, none⟩ = some (.int .u32 ip) ∧ W.cell? ⟨g1, o1 + k * 10 + 2, none⟩ = some (.int .u8 m1.a) ∧ W.cell? ⟨g1, o1 + k * 10 + 3, none⟩ = some (.int .u8 m1.b) ∧ W.cell? ⟨g1, o1 + k * 10 + 4, none⟩ = some (.int .u8 m1.c) ∧ W.cell? ⟨g1, o1 + k * 10 + 5, none⟩ = some (.int .u8 m1.d) ∧ W.cell? ⟨g1, o1 + k * 10 + 6, none⟩ = some (.int .u8 m1.e) ∧ W.cell? ⟨g1, o1 + k * 10 + 7, none⟩ = some (.int .u8 m1.f)) := Lib.hid (fun W hW => ⟨(KS.out _ (below_to HB.out hW HB.out.size)).1, (KS.out _ (below_to HB.out hW HB.out.size)).2.1, (KS.out _ (below_to HB.out hW HB.out.size)).2.2.1, (KS.out _ (below_to HB.out hW HB.out.size)).2.2.2.1, (KS.out _ (below_to HB.out hW HB.out.size)).2.2.2.2.1, (KS.out _ (below_to HB.out hW HB.out.size)).2.2.2.2.2.1, (KS.out _ (below_to HB.out hW HB.out.size)).2.2.2.2.2.2.1⟩)
                clear d1 d2 d3 d4 d5 d6 d7 d8
                go_upto_region 16 with fail
                go_region_held (fun W => W.cell? ⟨g1, o1 + k * 10 + 1, none⟩ = some (.int .u32 ip) ∧ W.cell? ⟨g1, o1 + k * 10 + 2, none⟩ = some (.int .u8 m1.a) ∧ W.cell? ⟨g1, o1 + k * 10 + 3, none⟩ = some (.int .u8 m1.b) ∧ W.cell? ⟨g1, o1 + k * 10 + 4, none⟩ = some (.int .u8 m1.c) ∧ W.cell? ⟨g1, o1 + k * 10 + 5, none⟩ = some (.int .u8 m1.d) ∧ W.cell? ⟨g1, o1 + k * 10 + 6, none⟩ = some (.int .u8 m1.e) ∧ W.cell? ⟨g1, o1 + k * 10 + 7, none⟩ = some (.int .u8 m1.f)) (first | exact SF.out _ (Below.refl _ _).drew | exact SF.out _ (Below.refl _ _) | exact ⟨(KS.out _ B5.out).1, (KS.out _ B5.out).2.1, (KS.out _ B5.out).2.2.1, (KS.out _ B5.out).2.2.2.1, (KS.out _ B5.out).2.2.2.2.1, (KS.out _ B5.out).2.2.2.2.2.1, (KS.out _ B5.out).2.2.2.2.2.2.1⟩) (first | (go_at_call 13; (with_reducible refine (XL.out _ ?_).mono ?_); (exact (Below.refl _ _).drew); rintro e w5 ⟨sv, rfl, _, hC, _⟩; (have C5 := Lib.hid hC); (have B5 := Lib.hid (below_to D0.out hC.base D0.out.size)); clear hC))
                go_wp2_with fail
                exact ⟨⟨k + 1, t + b, _, rfl, by simp, by omega, by omega, by omega, by omega, C5.out⟩, by simp [intOf]; omega⟩
              · by_cases h3 : kd = 3
                · subst h3
                  clear XW XT
                  have SF : Hid (∀ W, Below wr.heap.size wr W → W.cell? ⟨g1, o1 + k * 10 + 1, none⟩ = some (.int .u32 ip) ∧ W.cell? ⟨g1, o1 + k * 10 + 2, none⟩ = some (.int .u8 m1.a) ∧ W.cell? ⟨g1, o1 + k * 10 + 3, none⟩ = some (.int .u8 m1.b) ∧ W.cell? ⟨g1, o1 + k * 10 + 4, none⟩ = some (.int .u8 m1.c) ∧ W.cell? ⟨g1, o1 + k * 10 + 5, none⟩ = some (.int .u8 m1.d) ∧ W.cell? ⟨g1, o1 + k * 10 + 6, none⟩ = some (.int .u8 m1.e) ∧ W.cell? ⟨g1, o1 + k * 10 + 7, none⟩ = some (.int .u8 m1.f)) := Lib.hid (fun W hW => ⟨(KS.out _ (below_to HB.out hW HB.out.size)).1, (KS.out _ (below_to HB.out hW HB.out.size)).2.1, (KS.out _ (below_to HB.out hW HB.out.size)).2.2.1, (KS.out _ (below_to HB.out hW HB.out.size)).2.2.2.1, (KS.out _ (below_to HB.out hW HB.out.size)).2.2.2.2.1, (KS.out _ (below_to HB.out hW HB.out.size)).2.2.2.2.2.1, (KS.out _ (below_to HB.out hW HB.out.size)).2.2.2.2.2.2.1⟩)
                  clear d1 d2 d3 d4 d5 d6 d7 d8
                  go_upto_region 16 with fail
                  go_region_held (fun W => W.cell? ⟨g1, o1 + k * 10 + 1, none⟩ = some (.int .u32 ip) ∧ W.cell? ⟨g1, o1 + k * 10 + 2, none⟩ = some (.int .u8 m1.a) ∧ W.cell? ⟨g1, o1 + k * 10 + 3, none⟩ = some (.int .u8 m1.b) ∧ W.cell? ⟨g1, o1 + k * 10 + 4, none⟩ = some (.int .u8 m1.c) ∧ W.cell? ⟨g1, o1 + k * 10 + 5, none⟩ = some (.int .u8 m1.d) ∧ W.cell? ⟨g1, o1 + k * 10 + 6, none⟩ = some (.int .u8 m1.e) ∧ W.cell? ⟨g1, o1 + k * 10 + 7, none⟩ = some (.int .u8 m1.f)) (first | exact SF.out _ (Below.refl _ _).drew | exact SF.out _ (Below.refl _ _) | exact ⟨(KS.out _ B5.out).1, (KS.out _ B5.out).2.1, (KS.out _ B5.out).2.2.1, (KS.out _ B5.out).2.2.2.1, (KS.out _ B5.out).2.2.2.2.1, (KS.out _ B5.out).2.2.2.2.2.1, (KS.out _ B5.out).2.2.2.2.2.2.1⟩) (first | (go_at_call 13; (with_reducible refine (XL.out _ ?_).mono ?_); (exact (Below.refl _ _).drew); rintro e w5 ⟨sv, rfl, _, hC, _⟩; (have C5 := Lib.hid hC); (have B5 := Lib.hid (below_to D0.out hC.base D0.out.size)); clear hC))
                  go_wp2_with fail
                  exact ⟨⟨k + 1, t + b, _, rfl, by simp, by omega, by omega, by omega, by omega, C5.out⟩, by simp [intOf]; omega⟩
                · by_cases h4 : kd = 4
                  · subst h4
                    go_wp2_with (go_at_call 16; (with_reducible refine XT.out.mono ?_); rintro e w5 ⟨dv, rfl, _, hC, _⟩; (have C5 := Lib.hid hC); clear hC)
                    exact ⟨⟨k + 1, t + b, _, rfl, by simp, by omega, by omega, by omega, by omega, C5.out⟩, by simp [intOf]; omega⟩
                  · have r0 : (kd == 0) = false := by simp [h0]
                    have r1 : (kd == 1) = false := by simp [h1]
                    have r2 : (kd == 2) = false := by simp [h2]
                    have r3 : (kd == 3) = false := by simp [h3]
                    have r4 : (kd == 4) = false := by simp [h4]
                    clear h0 h1 h2 h3 h4
                    go_wp2_with fail
                    exact ⟨⟨k + 1, t + b, _, rfl, by simp, by omega, by omega, by omega, by omega, HC.out⟩, by simp [intOf]; omega⟩
        · have q2 : decide ((k : Int) < 200) = false := decide_eq_false (by omega)
          go_wp2_with fail
          go_meet
          case rel => exact ⟨t, L, rfl, by omega, by omega, HC.out⟩
      · have q1 : decide ((k : Int) < (M : Int)) = false := decide_eq_false (by omega)
        go_wp2_with fail
        go_meet
        case rel => exact ⟨t, L, rfl, by omega, by omega, HC.out⟩
  case rest =>
    obtain ⟨t, L, rfl, ht0, ht1, hC⟩ := hcut
    have HC := Lib.hid hC
    clear hC C0
    have XL := Lib.hid (HC.out.learn (ip := x1) (now := t) (m := m) Hip.out (by unfold U64; omega))
    obtain ⟨b0, b1, b2, b3, b4, b5⟩ := mac_box ((HC.out.base.block _ S0.out).trans M0.out)
    unfold Mc.val at XL
    by_cases hl : learnC L x1 = 0
    · rw [hl] at XL
      have HK := Lib.hid (learn_look (m := m) (now := t) HC.out.srt hl)
      obtain ⟨L2, hL2⟩ : ∃ L2, learnL L x1 m t = L2 := ⟨_, rfl⟩
      rw [hL2] at HK XL
      clear hl hL2
      have hx0 : 0 ≤ x3 ∧ x3 < 256 := Hx3.out
      obtain ⟨d, hd⟩ : ∃ d, x3.tmod 100 = d := ⟨_, rfl⟩
      have hd2 : 0 ≤ d ∧ d < 100 := by rw [← hd, Int.tmod_eq_emod_of_nonneg hx0.1]; omega
      have qd : IntKind.u64.wrap d = d := by rw [IntKind.wrap_u64]; omega
      have qd8 : IntKind.u8.wrap d = d := by rw [IntKind.wrap_u8]; omega
      have qt : IntKind.u64.wrap (t + d) = t + d := by rw [IntKind.wrap_u64]; omega
      go_upto_region 23 with (go_at_call 13; (with_reducible refine XL.out.mono ?_); rintro e w3 ⟨sv, rfl, _, hC, _⟩; (have C3 := Lib.hid hC); clear hC)
      by_cases h60 : d < 60
      · have q60 : decide (d < 60) = true := decide_eq_true h60
        have hf := kn_find HK.out hd2.1
        have hw := kn_wait HK.out C3.out.srt C3.out.few hd2.1
        rw [if_pos h60] at hf hw
        have XF := Lib.hid (C3.out.find (ip := x1) (now := t + d) Hip.out (by unfold U64; omega))
        rw [hf] at XF
        unfold Mc.val at XF
        simp only at XF
        have HW := Lib.hid hw
        clear hf h60 hw
        go_upto_region 24 with (go_at_call 19; (with_reducible refine XF.out.mono ?_); rintro e w6 ⟨rfl, hB⟩; (have B6 := Lib.hid hB); clear hB)
        have D7 := Lib.hid (below_al B6.out (.cells #[.int .u8 m.a, .int .u8 m.b, .int .u8 m.c, .int .u8 m.d, .int .u8 m.e, .int .u8 m.f] 34))
        have M7 : Hid ((w6.alloc (.cells #[.int .u8 m.a, .int .u8 m.b, .int .u8 m.c, .int .u8 m.d, .int .u8 m.e, .int .u8 m.f] 34)).heap[w6.heap.size]? = some m.obj) := Lib.hid (heap_alloc_new w6 m.obj)
        have S7 : Hid (w6.heap.size < (w6.alloc (.cells #[.int .u8 m.a, .int .u8 m.b, .int .u8 m.c, .int .u8 m.d, .int .u8 m.e, .int .u8 m.f] 34)).heap.size) := Lib.hid (by simp)
        have P7 : Hid (w3.heap.size ≤ w6.heap.size) := Lib.hid B6.out.size
        generalize w6.alloc (.cells #[.int .u8 m.a, .int .u8 m.b, .int .u8 m.c, .int .u8 m.d, .int .u8 m.e, .int .u8 m.f] 34) = w7 at D7 M7 S7 ⊢
        generalize w6.heap.size = G7 at M7 S7 P7 ⊢
        have XW := Lib.hid ((C3.out.beside D7.out P7.out S7.out).wait (ip := x1) (now := t + d) Hip.out (by unfold U64; omega) (x := []) (by simp) (Rd.nil w7))
        rw [HW.out] at XW
        clear XF
        go_wp2_with (go_at_call 11; (with_reducible refine XW.out.mono ?_); rintro e w8 ⟨rfl, hC, hK⟩; (obtain ⟨e0, e1, e2, e3, e4, e5⟩ := mac_box ((hK G7 (Or.inr rfl)).trans M7.out)); (obtain ⟨f0, f1, f2, f3, f4, f5⟩ := mac_box ((hC.base.block _ S0.out).trans M0.out)); (have ez := mac_self m w8); (have B8 := Lib.hid hC.base); clear hC hK)
        go_ret
        exact ⟨rfl, below_to D0.out B8.out D0.out.size⟩
      · have q60 : decide (d < 60) = false := decide_eq_false h60
        have hf := kn_find HK.out hd2.1
        have hw := kn_wait HK.out C3.out.srt C3.out.few hd2.1
        rw [if_neg h60] at hf hw
        have XF := Lib.hid (C3.out.find (ip := x1) (now := t + d) Hip.out (by unfold U64; omega))
        rw [hf] at XF
        unfold Mc.val Mc.zero at XF
        simp only at XF
        have HW := Lib.hid hw
        clear hf h60 hw
        go_upto_region 24 with (go_at_call 19; (with_reducible refine XF.out.mono ?_); rintro e w6 ⟨rfl, hB⟩; (have B6 := Lib.hid hB); clear hB)
        have D7 := Lib.hid (below_al B6.out (.cells #[.int .u8 0, .int .u8 0, .int .u8 0, .int .u8 0, .int .u8 0, .int .u8 0] 34))
        have M7 : Hid ((w6.alloc (.cells #[.int .u8 0, .int .u8 0, .int .u8 0, .int .u8 0, .int .u8 0, .int .u8 0] 34)).heap[w6.heap.size]? = some Mc.zero.obj) := Lib.hid (heap_alloc_new w6 Mc.zero.obj)
        have S7 : Hid (w6.heap.size < (w6.alloc (.cells #[.int .u8 0, .int .u8 0, .int .u8 0, .int .u8 0, .int .u8 0, .int .u8 0] 34)).heap.size) := Lib.hid (by simp)
        have P7 : Hid (w3.heap.size ≤ w6.heap.size) := Lib.hid B6.out.size
        generalize w6.alloc (.cells #[.int .u8 0, .int .u8 0, .int .u8 0, .int .u8 0, .int .u8 0, .int .u8 0] 34) = w7 at D7 M7 S7 ⊢
        generalize w6.heap.size = G7 at M7 S7 P7 ⊢
        have XW := Lib.hid ((C3.out.beside D7.out P7.out S7.out).wait (ip := x1) (now := t + d) Hip.out (by unfold U64; omega) (x := []) (by simp) (Rd.nil w7))
        rw [HW.out] at XW
        clear XF
        go_wp2_with (go_at_call 11; (with_reducible refine XW.out.mono ?_); rintro e w8 ⟨rfl, hC, hK⟩; (have B8 := Lib.hid hC.base); clear hC hK)
        go_ret
        exact ⟨rfl, below_to D0.out B8.out D0.out.size⟩
    · obtain ⟨l1, l2, l3⟩ := learn_full (m := m) (now := t) HC.out.few hl
      rw [l1, l2] at XL
      have hl3 : (L.length : Int) = 32 := by omega
      clear hl l1 l2 l3
      go_wp2_with (first
        | (go_at_call 13; (with_reducible refine XL.out.mono ?_); rintro e w3 ⟨sv, rfl, _, hC, _⟩; (have C3 := Lib.hid hC); (have X3 := Lib.hid hC.len); rw [hl3] at X3; clear hC)
        | (go_at_call 21; (with_reducible refine X3.out.mono ?_); rintro e w4 ⟨rfl, rfl⟩))
      go_ret
      exact ⟨rfl, below_to D0.out C3.out.base D0.out.size⟩

end Go.Proofs.Ytfeipeninmclkaa
