/-
  What is proved: CacheBounds by contract: the law returns true, and older memory is as it was.
  Conditions: none but those of the arguments.
-/
import Derived.Test.YtfeipeninmclkaaCaStep
import Derived.Deep.DeepCutAuto
namespace Go.Proofs.Ytfeipeninmclkaa
open Go.RowKit

set_option maxRecDepth 100000 in
set_option maxHeartbeats 8000000 in
theorem cacheBounds_con (A : Option Addr) (M c : Nat) (x1 : Int) (w : World) (hMc : M ≤ c) (hc : c ≤ 9223372036854775807) (hS : StepsAt w A M) (hip : U32 x1) :
    Calls Try.prog 5 #[.slice A M c, .int .u32 x1] w fun e w' => e = .returned (.bool true) ∧ Below w.heap.size w w' := by
  have X0 := Lib.hid (fun W => shown_any W)
  have HN := Lib.hid (fun W W1 (h : Below W.heap.size W W1) => new_cx W W1 h)
  have HS := Lib.hid hS
  have Hip := Lib.hid hip
  have hM : M ≤ 9223372036854775807 := by omega
  clear hS hMc hc hip
  go_enter Try.func5, Try.ntmps5
  go_upto_block 0 with (first
    | (go_at_call 9; refine (X0.out _).mono ?_; rintro e w1 ⟨rfl, hB⟩; (have B1 := Lib.hid hB); clear hB)
    | (go_at_call 10; refine (HN.out w _ B1.out).mono ?_; rintro e w2 ⟨p, rfl, hC, _⟩; (have C0 := Lib.hid hC); clear hC))
  have D3 := Lib.hid ((Below.refl _ w2).alloc (Nat.le_refl _) (.cells #[.int .u8 0, .int .u8 0, .int .u8 0, .int .u8 0, .int .u8 0, .int .u8 0] 34))
  have C3 := Lib.hid ((C0.out.beside (g := w2.heap.size) D3.out (Nat.le_refl _) (by simp)).drop (K' := fun k => k = w2.heap.size) (fun k hk => Or.inr hk))
  have M3 : Hid ((w2.alloc (.cells #[.int .u8 0, .int .u8 0, .int .u8 0, .int .u8 0, .int .u8 0, .int .u8 0] 34)).heap[w2.heap.size]? = some Mc.zero.obj) := Lib.hid (heap_alloc_new w2 Mc.zero.obj)
  have hwg : Hid (w.heap.size ≤ w2.heap.size) := Lib.hid C0.out.base.size
  generalize w2.alloc (.cells #[.int .u8 0, .int .u8 0, .int .u8 0, .int .u8 0, .int .u8 0, .int .u8 0] 34) = w3 at D3 C3 M3 ⊢
  generalize w2.heap.size = g at C3 M3 hwg ⊢
  clear D3 C0 B1
  go_wp2_with fail
  go_loopw [8, 9, 10] (fun s8 s9 s10 wr => ∃ (k : Nat) (ev : Bool) (t : Int) (la : Mc) (L : List En), s8 = .bool ev ∧ s9 = .int .u64 t ∧ s10 = .int .i64 (k : Int) ∧ k ≤ M ∧ U64 t ∧ Cx w (fun k => k = g) wr p L ∧ Bd L x1 ev la ∧ wr.heap[g]? = some la.obj) (fun _ _ s10 _ => M - (intOf s10).toNat)
  case atStart => exact ⟨0, false, 0, Mc.zero, [], rfl, rfl, rfl, Nat.zero_le _, by unfold U64; omega, C3.out, Bd.nil _ _ _, M3.out⟩
  case round =>
    obtain ⟨k, ev, t, la, L, rfl, rfl, rfl, hk, ht, hC, hBd, hla⟩ := hrel
    have HC := Lib.hid hC
    have HBd := Lib.hid hBd
    have Hla := Lib.hid hla
    clear hC hBd hla C3 M3
    by_cases hlt : k < M
    · have q1 : decide ((k : Int) < (M : Int)) = true := decide_eq_true (by omega)
      by_cases h3 : k < 300
      · have q2 : decide ((k : Int) < 300) = true := decide_eq_true (by omega)
        obtain ⟨g1, o1, kd, ip, m, bs, b, B1, c1, rfl, hkd, hip, hbs, hb, hrd, c0, d1, d2, d3, d4, d5, d6, d7, d8, d9⟩ := (HS.out.below HC.out.base).get hlt
        have Hi := Lib.hid hip
        have Hbs := Lib.hid hbs
        have Hrd := Lib.hid hrd
        have qb := wrap_by hb
        obtain ⟨t2, ht2⟩ : ∃ t2, IntKind.u64.wrap (t + b) = t2 := ⟨_, rfl⟩
        have Ht2 : Hid (U64 t2) := Lib.hid (ht2 ▸ wrap_u _)
        clear hip hbs hb hrd
        go_upto_block 2 with (refine wpList_store_row rfl 37 (.tmp 11) (.tmp 34) rfl wr.heap.size #[.int .i64 kd, .int .u32 ip, .int .u8 m.a, .int .u8 m.b, .int .u8 m.c, .int .u8 m.d, .int .u8 m.e, .int .u8 m.f, .slice B1 bs.length c1, .int .u8 b] rfl rfl 37 _ (heap_alloc_new wr _) stepSize rfl (step_one _ _ _ _ _ _ _) ?_; rw [setRow_alloc])
        have D4 := Lib.hid ((Below.refl _ wr).alloc (Nat.le_refl _) (.cells #[.int .i64 kd, .int .u32 ip, .int .u8 m.a, .int .u8 m.b, .int .u8 m.c, .int .u8 m.d, .int .u8 m.e, .int .u8 m.f, .slice B1 bs.length c1, .int .u8 b] 37))
        have C4 := Lib.hid (HC.out.beside (g := wr.heap.size) D4.out (Nat.le_refl _) (by simp))
        have M4 : Hid ((wr.alloc (.cells #[.int .i64 kd, .int .u32 ip, .int .u8 m.a, .int .u8 m.b, .int .u8 m.c, .int .u8 m.d, .int .u8 m.e, .int .u8 m.f, .slice B1 bs.length c1, .int .u8 b] 37)).heap[wr.heap.size]? = some (stObj kd ip m (.slice B1 bs.length c1) b)) := Lib.hid (heap_alloc_new wr (stObj kd ip m (.slice B1 bs.length c1) b))
        have Hla4 : Hid ((wr.alloc (.cells #[.int .i64 kd, .int .u32 ip, .int .u8 m.a, .int .u8 m.b, .int .u8 m.c, .int .u8 m.d, .int .u8 m.e, .int .u8 m.f, .slice B1 bs.length c1, .int .u8 b] 37)).heap[g]? = some la.obj) := Lib.hid ((D4.out.block g (HC.out.lt g rfl)).trans Hla.out)
        have R4 := Lib.hid (Hrd.out.below D4.out)
        generalize wr.alloc (.cells #[.int .i64 kd, .int .u32 ip, .int .u8 m.a, .int .u8 m.b, .int .u8 m.c, .int .u8 m.d, .int .u8 m.e, .int .u8 m.f, .slice B1 bs.length c1, .int .u8 b] 37) = w4 at D4 C4 M4 Hla4 R4 ⊢
        generalize wr.heap.size = G at C4 M4 ⊢
        clear D4 Hla c0 d1 d2 d3 d4 d5 d6 d7 d8 d9 Hrd qb
        obtain ⟨b0, b1, b2, b3, b4, b5, b6, b7, b8, b9⟩ := step_box M4.out
        go_cut [8] (fun s8 wx => ∃ (ev' : Bool) (la' : Mc) (L' : List En), s8 = .bool ev' ∧ Cx w (fun k => k = g ∨ k = G) wx p L' ∧ Bd L' x1 ev' la' ∧ wx.heap[g]? = some la'.obj)
        case first =>
          have XW := Lib.hid (C4.out.wait (now := t2) Hi.out Ht2.out Hbs.out R4.out)
          have XL := Lib.hid (C4.out.learn (now := t2) (m := m) Hi.out Ht2.out)
          have XT := Lib.hid (C4.out.tick (now := t2) Ht2.out)
          unfold Mc.val at XL
          by_cases h0 : kd = 0
          · subst h0
            go_wp2_with (go_at_call 11; (with_reducible refine XW.out.mono ?_); rintro e w5 ⟨rfl, hC, hK⟩; (have C5 := Lib.hid hC); (have K5 := Lib.hid hK); clear hC hK)
            go_meet
            case rel => exact ⟨ev, la, _, rfl, C5.out, HBd.out.wait HC.out.srt, (K5.out g (Or.inl rfl)).trans Hla4.out⟩
          · by_cases h1 : kd = 1
            · subst h1
              go_wp2_with (go_at_call 11; (with_reducible refine XW.out.mono ?_); rintro e w5 ⟨rfl, hC, hK⟩; (have C5 := Lib.hid hC); (have K5 := Lib.hid hK); clear hC hK)
              go_meet
              case rel => exact ⟨ev, la, _, rfl, C5.out, HBd.out.wait HC.out.srt, (K5.out g (Or.inl rfl)).trans Hla4.out⟩
            · by_cases h2 : kd = 2
              · subst h2
                clear XW XT
                by_cases he : ip = x1
                · by_cases hl0 : learnC L ip = 0
                  · have qe : (ip == x1) = true := by rw [beq_iff_eq]; exact he
                    have He := Lib.hid he
                    clear he
                    rw [hl0] at XL
                    have Hl0 := Lib.hid hl0
                    clear hl0
                    go_wp2_with (first
                      | (go_at_call 13; (with_reducible refine XL.out.mono ?_); rintro e w5 ⟨sv, rfl, _, hC, hK⟩; (obtain ⟨b0, b1, b2, b3, b4, b5, b6, b7, b8, b9⟩ := step_box ((hK G (Or.inr rfl)).trans M4.out)); (have C5 := Lib.hid hC); (have HZ := Lib.hid ((hK g (Or.inl rfl)).trans Hla4.out)); clear hC hK)
                      | (refine wpList_store_row rfl 34 (.tmp 7) (.tmp 74) rfl g #[.int .u8 m.a, .int .u8 m.b, .int .u8 m.c, .int .u8 m.d, .int .u8 m.e, .int .u8 m.f] rfl rfl 34 _ HZ.out macSize rfl (mac_one _ _ _ _ _ _) ?_))
                    go_meet
                    case rel => exact ⟨true, m, _, rfl, C5.out.row hwg.out (Or.inl rfl) _, He.out ▸ Bd.learn_same HC.out.srt Hl0.out, setRow_heap _ _ _ _ _ _ HZ.out⟩
                  · have qe : (ip == x1) = true := by rw [beq_iff_eq]; exact he
                    have He := Lib.hid he
                    clear he
                    have qc : (learnC L ip == 0) = false := by rw [beq_eq_false_iff_ne]; exact hl0
                    have Hl0 := Lib.hid hl0
                    clear hl0
                    go_wp2_with (go_at_call 13; (with_reducible refine XL.out.mono ?_); rintro e w5 ⟨sv, rfl, _, hC, hK⟩; (obtain ⟨b0, b1, b2, b3, b4, b5, b6, b7, b8, b9⟩ := step_box ((hK G (Or.inr rfl)).trans M4.out)); (have C5 := Lib.hid hC); (have HZ := Lib.hid ((hK g (Or.inl rfl)).trans Hla4.out)); clear hC hK)
                    go_meet
                    case rel => exact ⟨ev, la, _, rfl, C5.out, HBd.out.learn_other HC.out.srt (Or.inr Hl0.out), HZ.out⟩
                · have qe : (ip == x1) = false := by rw [beq_eq_false_iff_ne]; exact he
                  have He := Lib.hid he
                  clear he
                  go_wp2_with (go_at_call 13; (with_reducible refine XL.out.mono ?_); rintro e w5 ⟨sv, rfl, _, hC, hK⟩; (obtain ⟨b0, b1, b2, b3, b4, b5, b6, b7, b8, b9⟩ := step_box ((hK G (Or.inr rfl)).trans M4.out)); (have C5 := Lib.hid hC); (have HZ := Lib.hid ((hK g (Or.inl rfl)).trans Hla4.out)); clear hC hK)
                  go_meet
                  case rel => exact ⟨ev, la, _, rfl, C5.out, HBd.out.learn_other HC.out.srt (Or.inl He.out), HZ.out⟩
              · by_cases h3 : kd = 3
                · subst h3
                  clear XW XT
                  by_cases he : ip = x1
                  · by_cases hl0 : learnC L ip = 0
                    · have qe : (ip == x1) = true := by rw [beq_iff_eq]; exact he
                      have He := Lib.hid he
                      clear he
                      rw [hl0] at XL
                      have Hl0 := Lib.hid hl0
                      clear hl0
                      go_wp2_with (first
                        | (go_at_call 13; (with_reducible refine XL.out.mono ?_); rintro e w5 ⟨sv, rfl, _, hC, hK⟩; (obtain ⟨b0, b1, b2, b3, b4, b5, b6, b7, b8, b9⟩ := step_box ((hK G (Or.inr rfl)).trans M4.out)); (have C5 := Lib.hid hC); (have HZ := Lib.hid ((hK g (Or.inl rfl)).trans Hla4.out)); clear hC hK)
                        | (refine wpList_store_row rfl 34 (.tmp 7) (.tmp 74) rfl g #[.int .u8 m.a, .int .u8 m.b, .int .u8 m.c, .int .u8 m.d, .int .u8 m.e, .int .u8 m.f] rfl rfl 34 _ HZ.out macSize rfl (mac_one _ _ _ _ _ _) ?_))
                      go_meet
                      case rel => exact ⟨true, m, _, rfl, C5.out.row hwg.out (Or.inl rfl) _, He.out ▸ Bd.learn_same HC.out.srt Hl0.out, setRow_heap _ _ _ _ _ _ HZ.out⟩
                    · have qe : (ip == x1) = true := by rw [beq_iff_eq]; exact he
                      have He := Lib.hid he
                      clear he
                      have qc : (learnC L ip == 0) = false := by rw [beq_eq_false_iff_ne]; exact hl0
                      have Hl0 := Lib.hid hl0
                      clear hl0
                      go_wp2_with (go_at_call 13; (with_reducible refine XL.out.mono ?_); rintro e w5 ⟨sv, rfl, _, hC, hK⟩; (obtain ⟨b0, b1, b2, b3, b4, b5, b6, b7, b8, b9⟩ := step_box ((hK G (Or.inr rfl)).trans M4.out)); (have C5 := Lib.hid hC); (have HZ := Lib.hid ((hK g (Or.inl rfl)).trans Hla4.out)); clear hC hK)
                      go_meet
                      case rel => exact ⟨ev, la, _, rfl, C5.out, HBd.out.learn_other HC.out.srt (Or.inr Hl0.out), HZ.out⟩
                  · have qe : (ip == x1) = false := by rw [beq_eq_false_iff_ne]; exact he
                    have He := Lib.hid he
                    clear he
                    go_wp2_with (go_at_call 13; (with_reducible refine XL.out.mono ?_); rintro e w5 ⟨sv, rfl, _, hC, hK⟩; (obtain ⟨b0, b1, b2, b3, b4, b5, b6, b7, b8, b9⟩ := step_box ((hK G (Or.inr rfl)).trans M4.out)); (have C5 := Lib.hid hC); (have HZ := Lib.hid ((hK g (Or.inl rfl)).trans Hla4.out)); clear hC hK)
                    go_meet
                    case rel => exact ⟨ev, la, _, rfl, C5.out, HBd.out.learn_other HC.out.srt (Or.inl He.out), HZ.out⟩
                · by_cases h4 : kd = 4
                  · subst h4
                    go_wp2_with (go_at_call 16; (with_reducible refine XT.out.mono ?_); rintro e w5 ⟨dv, rfl, _, hC, hK⟩; (have C5 := Lib.hid hC); (have K5 := Lib.hid hK); clear hC hK)
                    go_meet
                    case rel => exact ⟨ev, la, _, rfl, C5.out, HBd.out.tick, (K5.out g (Or.inl rfl)).trans Hla4.out⟩
                  · have r0 : (kd == 0) = false := by simp [h0]
                    have r1 : (kd == 1) = false := by simp [h1]
                    have r2 : (kd == 2) = false := by simp [h2]
                    have r3 : (kd == 3) = false := by simp [h3]
                    have r4 : (kd == 4) = false := by simp [h4]
                    clear h0 h1 h2 h3 h4
                    go_wp2_with fail
                    go_meet
                    case rel => exact ⟨ev, la, L, rfl, C4.out, HBd.out, Hla4.out⟩
        case rest =>
          obtain ⟨ev', la', L', rfl, hC, hBd, hla⟩ := hcut
          have HC5 := Lib.hid hC
          have HBd5 := Lib.hid hBd
          have Hla5 := Lib.hid hla
          clear hC hBd hla C4 M4 Hla4 R4 b0 b1 b2 b3 b4 b5 b6 b7 b8 b9
          have XF := Lib.hid (HC5.out.find (ip := x1) (now := t2) Hip.out Ht2.out)
          have qg : decide ((32 : Int) < (L'.length : Int)) = false := by have := HC5.out.few; exact decide_eq_false (by omega)
          rcases HBd5.out.find (now := t2) with hf | ⟨rfl, hf⟩
          · rw [hf] at XF
            unfold Mc.val Mc.zero at XF
            simp only at XF
            clear hf
            go_upto_region 26 with (go_at_call 19; (with_reducible refine XF.out.mono ?_); rintro e w6 ⟨rfl, hB⟩; (have B6 := Lib.hid hB); clear hB)
            have D7 := Lib.hid (below_al B6.out (.cells #[.int .u8 0, .int .u8 0, .int .u8 0, .int .u8 0, .int .u8 0, .int .u8 0] 34))
            have M7 : Hid ((w6.alloc (.cells #[.int .u8 0, .int .u8 0, .int .u8 0, .int .u8 0, .int .u8 0, .int .u8 0] 34)).heap[w6.heap.size]? = some Mc.zero.obj) := Lib.hid (heap_alloc_new w6 Mc.zero.obj)
            generalize w6.alloc (.cells #[.int .u8 0, .int .u8 0, .int .u8 0, .int .u8 0, .int .u8 0, .int .u8 0] 34) = w7 at D7 M7 ⊢
            generalize w6.heap.size = G7 at M7 ⊢
            have C7 := Lib.hid (HC5.out.to D7.out)
            have N7 := Lib.hid ((D7.out.block g (HC5.out.lt g (Or.inl rfl))).trans Hla5.out)
            have XN := Lib.hid C7.out.len
            obtain ⟨e0, e1, e2, e3, e4, e5⟩ := mac_box M7.out
            obtain ⟨f0, f1, f2, f3, f4, f5⟩ := mac_box N7.out
            unfold Mc.zero at e0 e1 e2 e3 e4 e5
            simp only at e0 e1 e2 e3 e4 e5
            have ez : (Op.equalIn 10000 34 (.agg #[.int .u8 0, .int .u8 0, .int .u8 0, .int .u8 0, .int .u8 0, .int .u8 0]) (.agg #[.int .u8 0, .int .u8 0, .int .u8 0, .int .u8 0, .int .u8 0, .int .u8 0])).run Try.prog w7 = .ok true w7 := mac_self Mc.zero w7
            clear XF B6 D7
            go_wp2_with (go_at_call 21; (with_reducible refine XN.out.mono ?_); rintro e w8 ⟨rfl, rfl⟩)
            exact ⟨⟨k + 1, ev', t2, la', L', rfl, rfl, by simp, by omega, Ht2.out, C7.out.drop (fun k hk => Or.inl hk), HBd5.out, N7.out⟩, by simp [intOf]; omega⟩
          · rw [hf] at XF
            unfold Mc.val at XF
            simp only at XF
            clear hf
            go_upto_region 26 with (go_at_call 19; (with_reducible refine XF.out.mono ?_); rintro e w6 ⟨rfl, hB⟩; (have B6 := Lib.hid hB); clear hB)
            have D7 := Lib.hid (below_al B6.out (.cells #[.int .u8 la'.a, .int .u8 la'.b, .int .u8 la'.c, .int .u8 la'.d, .int .u8 la'.e, .int .u8 la'.f] 34))
            have M7 : Hid ((w6.alloc (.cells #[.int .u8 la'.a, .int .u8 la'.b, .int .u8 la'.c, .int .u8 la'.d, .int .u8 la'.e, .int .u8 la'.f] 34)).heap[w6.heap.size]? = some la'.obj) := Lib.hid (heap_alloc_new w6 la'.obj)
            generalize w6.alloc (.cells #[.int .u8 la'.a, .int .u8 la'.b, .int .u8 la'.c, .int .u8 la'.d, .int .u8 la'.e, .int .u8 la'.f] 34) = w7 at D7 M7 ⊢
            generalize w6.heap.size = G7 at M7 ⊢
            have C7 := Lib.hid (HC5.out.to D7.out)
            have N7 := Lib.hid ((D7.out.block g (HC5.out.lt g (Or.inl rfl))).trans Hla5.out)
            have XN := Lib.hid C7.out.len
            obtain ⟨e0, e1, e2, e3, e4, e5⟩ := mac_box M7.out
            obtain ⟨f0, f1, f2, f3, f4, f5⟩ := mac_box N7.out
            have ez := mac_self la' w7
            clear XF B6 D7
            go_wp2_with (go_at_call 21; (with_reducible refine XN.out.mono ?_); rintro e w8 ⟨rfl, rfl⟩)
            exact ⟨⟨k + 1, true, t2, la', L', rfl, rfl, by simp, by omega, Ht2.out, C7.out.drop (fun k hk => Or.inl hk), HBd5.out, N7.out⟩, by simp [intOf]; omega⟩
      · have q2 : decide ((k : Int) < 300) = false := decide_eq_false (by omega)
        go_wp2_with fail
        go_ret
        exact ⟨rfl, HC.out.base⟩
    · have q1 : decide ((k : Int) < (M : Int)) = false := decide_eq_false (by omega)
      go_wp2_with fail
      go_ret
      exact ⟨rfl, HC.out.base⟩
end Go.Proofs.Ytfeipeninmclkaa
