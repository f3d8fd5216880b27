/-
  What is proved: CacheOnce by contract: the law returns true, and older memory is as it was.
  Conditions: none but those of the arguments.
-/
import Derived.Test.YtfeipeninmclkaaCaOnceW
import Derived.Deep.DeepCutAuto
namespace Go.Proofs.Ytfeipeninmclkaa
open Go.RowKit

set_option maxRecDepth 100000 in
set_option maxHeartbeats 8000000 in
theorem cacheOnce_con (A : Option Addr) (M c : Nat) (w : World) (hMc : M ≤ c) (hc : c ≤ 9223372036854775807) (hS : StepsAt w A M) :
    Calls Try.prog 4 #[.slice A M c] w fun e w' => e = .returned (.bool true) ∧ Below w.heap.size w w' := by
  have X0 := Lib.hid (fun W => shown_any W)
  have HN := Lib.hid (fun W W1 (h : Below W.heap.size W W1) => new_cx W W1 h)
  have HS := Lib.hid hS
  obtain ⟨own, hown⟩ := own_of hS
  have HO := Lib.hid hown
  have hM : M ≤ 9223372036854775807 := by omega
  clear hS hMc hc hown
  go_enter Try.func4, Try.ntmps4
  go_upto_block 0 with (first
    | (go_at_call 9; refine (X0.out _).mono ?_; rintro e w1 ⟨rfl, hB⟩; (have B1 := Lib.hid hB); clear hB)
    | (go_at_call 10; refine (HN.out w _ B1.out).mono ?_; rintro e w2 ⟨p, rfl, hC, _⟩; (have C0 := Lib.hid hC); clear hC))
  clear B1
  go_cut [5, 6, 7] (fun s5 s6 s7 wx => ∃ (i tk td : Nat) (t : Int) (sn : List Nat) (L : List En) (sv : Value), s5 = .int .i64 (tk : Int) ∧ s6 = .int .i64 (td : Int) ∧ s7 = .int .u64 t ∧ On w M own wx p sv i tk td t sn L)
  case first =>
    go_wp2_with fail
    go_loopw [5, 6, 7, 8, 9] (fun s5 s6 s7 s8 s9 wr => ∃ (i tk td : Nat) (t : Int) (sn : List Nat) (L : List En), s5 = .int .i64 (tk : Int) ∧ s6 = .int .i64 (td : Int) ∧ s7 = .int .u64 t ∧ s9 = .int .i64 (i : Int) ∧ On w M own wr p s8 i tk td t sn L) (fun _ _ _ _ s9 _ => M - (intOf s9).toNat)
    case atStart => exact ⟨0, 0, 0, 0, [], [], rfl, rfl, rfl, rfl, Nat.zero_le _, Nat.zero_le _, by omega, by omega, Nat.zero_le _, rfl, Nat.zero_le _, Inv.nil _ _ _, C0.out.drop (fun k hk => by cases hk), World.ownsRow_nil _ _ _ _⟩
    case round =>
      obtain ⟨i, tk, td, t, sn, L, rfl, rfl, rfl, rfl, hOn⟩ := hrel
      have HOn := Lib.hid hOn
      have hi := hOn.hi
      have ht0 := hOn.t0
      have ht1 := hOn.t1
      have htk := hOn.took
      have htd : td ≤ tk := by have := hOn.sum; omega
      clear hOn C0
      by_cases hlt : i < M
      · have q1 : decide ((i : Int) < (M : Int)) = true := decide_eq_true (by omega)
        by_cases h3 : i < 300
        · have q2 : decide ((i : Int) < 300) = true := decide_eq_true (by omega)
          obtain ⟨g1, o1, kd, ip, m, bs, b, B1, c1, rfl, hkd, hip, hbs, hb, hrd, c0, d1, d2, d3, d4, d5, d6, d7, d8, d9⟩ := (HS.out.below HOn.out.cx.base).get hlt
          have Hi := Lib.hid hip
          have hown : own i = ip := by
            obtain ⟨g2, o2, e, _, hc2⟩ := HO.out i hlt
            cases e
            have := ((HOn.out.cx.base.cell (World.block_lt_of_cell? w _ hc2)).trans hc2).symm.trans d1
            simpa using this
          have Hown := Lib.hid hown
          have hd3 := and_u8_3 hb
          obtain ⟨d, hd⟩ : ∃ d, bits .and .u8 b 3 = d := ⟨_, rfl⟩
          rw [hd] at hd3
          have qb : IntKind.u64.wrap d = d := by rw [IntKind.wrap_u64]; omega
          have qt : IntKind.u64.wrap (t + d) = t + d := by rw [IntKind.wrap_u64]; omega
          have Ht2 : Hid (U64 (t + d)) := Lib.hid (by unfold U64; omega)
          clear hip hbs hb hrd hown
          go_upto_block 2 with (refine wpList_store_row rfl 37 (.tmp 10) (.tmp 41) rfl wr.heap.size #[.int .i64 kd, .int .u32 ip, .int .u8 m.a, .int .u8 m.b, .int .u8 m.c, .int .u8 m.d, .int .u8 m.e, .int .u8 m.f, .slice B1 bs.length c1, .int .u8 b] rfl rfl 37 _ (heap_alloc_new wr _) stepSize rfl (step_one _ _ _ _ _ _ _) ?_; rw [setRow_alloc])
          have D4 := Lib.hid ((Below.refl _ wr).alloc (Nat.le_refl _) (.cells #[.int .i64 kd, .int .u32 ip, .int .u8 m.a, .int .u8 m.b, .int .u8 m.c, .int .u8 m.d, .int .u8 m.e, .int .u8 m.f, .slice B1 bs.length c1, .int .u8 b] 37))
          have C4 := Lib.hid (HOn.out.cx.beside (g := wr.heap.size) D4.out (Nat.le_refl _) (by simp))
          have M4 : Hid ((wr.alloc (.cells #[.int .i64 kd, .int .u32 ip, .int .u8 m.a, .int .u8 m.b, .int .u8 m.c, .int .u8 m.d, .int .u8 m.e, .int .u8 m.f, .slice B1 bs.length c1, .int .u8 b] 37)).heap[wr.heap.size]? = some (stObj kd ip m (.slice B1 bs.length c1) b)) := Lib.hid (heap_alloc_new wr (stObj kd ip m (.slice B1 bs.length c1) b))
          have R4 := Lib.hid (owns_at HOn.out.row (fun g hg => D4.out.block g (HOn.out.cx.lt g hg)))
          have NG : Hid (∀ k, u8.ownBlock = some k → k ≠ wr.heap.size) := Lib.hid (fun k hk e => by have := HOn.out.cx.lt k hk; omega)
          generalize wr.alloc (.cells #[.int .i64 kd, .int .u32 ip, .int .u8 m.a, .int .u8 m.b, .int .u8 m.c, .int .u8 m.d, .int .u8 m.e, .int .u8 m.f, .slice B1 bs.length c1, .int .u8 b] 37) = w4 at D4 C4 M4 R4 ⊢
          generalize wr.heap.size = G at C4 M4 NG ⊢
          clear D4 c0 d1 d2 d3 d4 d5 d6 d7 d8 d9
          obtain ⟨b0, b1, b2, b3, b4, b5, b6, b7, b8, b9⟩ := step_box M4.out
          have Hsum := Lib.hid HOn.out.sum
          have Hsl := Lib.hid HOn.out.sl
          have Hinv := Lib.hid (HOn.out.inv.mono (i' := i) (t' := t + d) (Nat.le_refl _) (by omega))
          clear HOn
          by_cases h0 : kd = 0
          · subst h0
            have RP := Lib.hid (rd_two w4 (UInt8.ofNat i) (UInt8.ofNat (i / 256)))
            have DA := Lib.hid ((Below.refl _ w4).alloc (Nat.le_refl _) (.cells #[.int .u8 ((UInt8.ofNat i).toNat : Int), .int .u8 ((UInt8.ofNat (i / 256)).toNat : Int)] 5))
            have XW := Lib.hid ((C4.out.to DA.out).wait (ip := ip) (now := t + d) (x := pkt i) Hi.out Ht2.out (by simp [pkt]) RP.out)
            have e3 : ((i / 256 : Nat) : Int) = (i : Int) / 256 := by omega
            rw [lo_byte, lo_byte, e3] at XW
            have e1 : IntKind.u8.wrap (i : Int) = (i : Int) % 256 := wrap_lo i
            have e2 : IntKind.u8.wrap ((i : Int) / 256) = (i : Int) / 256 % 256 := by rw [IntKind.wrap_u8]
            have a1 : (w4.alloc (.cells #[.int .u8 ((i : Int) % 256), .int .u8 ((i : Int) / 256 % 256)] 5)).cell? ⟨G, 1, none⟩ = some (.int .u32 ip) := (((Below.refl _ w4).alloc (Nat.le_refl _) _).cell (World.block_lt_of_cell? w4 _ b1)).trans b1
            have hpw := Lib.hid (pend_wait (ip := ip) (now := t + d) (p := pkt i) C4.out.srt C4.out.ok)
            have Hnew := Lib.hid (Hinv.out.wait C4.out.srt Hown.out)
            have R5 := Lib.hid (owns_at R4.out (fun g hg => ((Below.refl _ w4).alloc (Nat.le_refl _) (.cells #[.int .u8 ((i : Int) % 256), .int .u8 ((i : Int) / 256 % 256)] 5)).block g (C4.out.lt g (Or.inl hg))))
            clear RP DA e3
            by_cases hw0 : waitC L ip (t + d) = 0
            · rw [hw0] at XW hpw
              clear hw0
              go_upto_region 18 with (go_at_call 11; (with_reducible refine XW.out.mono ?_); rintro e w5 ⟨rfl, hC, hK⟩; (have C5 := Lib.hid hC); (have K5 := Lib.hid hK); clear hC hK)
              clear a1 e1 e2 b0 b1 b2 b3 b4 b5 b6 b7 b8 b9
              go_wp2_with fail
              have hp := hpw.out
              have hs := Hsum.out
              simp only [if_true] at hp
              exact ⟨⟨i + 1, tk + 1, td, t + d, sn, _, by simp, rfl, rfl, by simp, by omega, by omega, by omega, by omega, by omega, by omega, Hsl.out, Hnew.out, C5.out.drop (fun k hk => Or.inl hk), owns_at R5.out (fun g hg => K5.out g (Or.inl hg))⟩, by simp [intOf]; omega⟩
            · have qw : (waitC L ip (t + d) == 0) = false := by rw [beq_eq_false_iff_ne]; exact hw0
              rw [if_neg hw0] at hpw
              clear hw0
              go_upto_region 18 with (go_at_call 11; (with_reducible refine XW.out.mono ?_); rintro e w5 ⟨rfl, hC, hK⟩; (have C5 := Lib.hid hC); (have K5 := Lib.hid hK); clear hC hK)
              clear a1 e1 e2 b0 b1 b2 b3 b4 b5 b6 b7 b8 b9
              go_wp2_with fail
              have hp := hpw.out
              have hs := Hsum.out
              exact ⟨⟨i + 1, tk, td, t + d, sn, _, rfl, rfl, rfl, by simp, by omega, by omega, by omega, by omega, by omega, by omega, Hsl.out, Hnew.out, C5.out.drop (fun k hk => Or.inl hk), owns_at R5.out (fun g hg => K5.out g (Or.inl hg))⟩, by simp [intOf]; omega⟩
          · by_cases h1 : kd = 1
            · subst h1
              have RP := Lib.hid (rd_two w4 (UInt8.ofNat i) (UInt8.ofNat (i / 256)))
              have DA := Lib.hid ((Below.refl _ w4).alloc (Nat.le_refl _) (.cells #[.int .u8 ((UInt8.ofNat i).toNat : Int), .int .u8 ((UInt8.ofNat (i / 256)).toNat : Int)] 5))
              have XW := Lib.hid ((C4.out.to DA.out).wait (ip := ip) (now := t + d) (x := pkt i) Hi.out Ht2.out (by simp [pkt]) RP.out)
              have e3 : ((i / 256 : Nat) : Int) = (i : Int) / 256 := by omega
              rw [lo_byte, lo_byte, e3] at XW
              have e1 : IntKind.u8.wrap (i : Int) = (i : Int) % 256 := wrap_lo i
              have e2 : IntKind.u8.wrap ((i : Int) / 256) = (i : Int) / 256 % 256 := by rw [IntKind.wrap_u8]
              have a1 : (w4.alloc (.cells #[.int .u8 ((i : Int) % 256), .int .u8 ((i : Int) / 256 % 256)] 5)).cell? ⟨G, 1, none⟩ = some (.int .u32 ip) := (((Below.refl _ w4).alloc (Nat.le_refl _) _).cell (World.block_lt_of_cell? w4 _ b1)).trans b1
              have hpw := Lib.hid (pend_wait (ip := ip) (now := t + d) (p := pkt i) C4.out.srt C4.out.ok)
              have Hnew := Lib.hid (Hinv.out.wait C4.out.srt Hown.out)
              have R5 := Lib.hid (owns_at R4.out (fun g hg => ((Below.refl _ w4).alloc (Nat.le_refl _) (.cells #[.int .u8 ((i : Int) % 256), .int .u8 ((i : Int) / 256 % 256)] 5)).block g (C4.out.lt g (Or.inl hg))))
              clear RP DA e3
              by_cases hw0 : waitC L ip (t + d) = 0
              · rw [hw0] at XW hpw
                clear hw0
                go_upto_region 18 with (go_at_call 11; (with_reducible refine XW.out.mono ?_); rintro e w5 ⟨rfl, hC, hK⟩; (have C5 := Lib.hid hC); (have K5 := Lib.hid hK); clear hC hK)
                clear a1 e1 e2 b0 b1 b2 b3 b4 b5 b6 b7 b8 b9
                go_wp2_with fail
                have hp := hpw.out
                have hs := Hsum.out
                simp only [if_true] at hp
                exact ⟨⟨i + 1, tk + 1, td, t + d, sn, _, by simp, rfl, rfl, by simp, by omega, by omega, by omega, by omega, by omega, by omega, Hsl.out, Hnew.out, C5.out.drop (fun k hk => Or.inl hk), owns_at R5.out (fun g hg => K5.out g (Or.inl hg))⟩, by simp [intOf]; omega⟩
              · have qw : (waitC L ip (t + d) == 0) = false := by rw [beq_eq_false_iff_ne]; exact hw0
                rw [if_neg hw0] at hpw
                clear hw0
                go_upto_region 18 with (go_at_call 11; (with_reducible refine XW.out.mono ?_); rintro e w5 ⟨rfl, hC, hK⟩; (have C5 := Lib.hid hC); (have K5 := Lib.hid hK); clear hC hK)
                clear a1 e1 e2 b0 b1 b2 b3 b4 b5 b6 b7 b8 b9
                go_wp2_with fail
                have hp := hpw.out
                have hs := Hsum.out
                exact ⟨⟨i + 1, tk, td, t + d, sn, _, rfl, rfl, rfl, by simp, by omega, by omega, by omega, by omega, by omega, by omega, Hsl.out, Hnew.out, C5.out.drop (fun k hk => Or.inl hk), owns_at R5.out (fun g hg => K5.out g (Or.inl hg))⟩, by simp [intOf]; omega⟩
            · by_cases h2 : kd = 2
              · subst h2
                obtain ⟨ns, hns, hpw, hnn⟩ := Hinv.out.told ip
                have XA := Lib.hid (C4.out.learn_lt (ip := ip) (now := t + d) (m := m) Hi.out Ht2.out)
                unfold Mc.val at XA
                have hpl := pend_learn (ip := ip) (m := m) (now := t + d) C4.out.srt C4.out.ok
                rw [hns] at XA
                have hnl : ns.length ≤ 4 := by have := learn_few (ip := ip) C4.out.ok; rw [hns] at this; simpa using this
                rw [hns, List.length_map] at hpl
                have hbn : td + ns.length ≤ 300 := by have := Hsum.out; omega
                have Hpw := Lib.hid hpw
                have Hnn := Lib.hid hnn
                have Hpl := Lib.hid hpl
                have Hnew := Lib.hid (Hinv.out.learn (m := m) C4.out.srt (fun n hn => ⟨(hnn n hn).1, (hnn n hn).2.1⟩))
                clear hns hpw hnn hpl
                go_upto_region 23 with (go_at_call 13; (with_reducible refine XA.out.mono ?_); rintro e w5 ⟨sv, rfl, ⟨F, hP, hF⟩, hC, hK⟩; (have T5 : Hid (Tl w w5 p G u8 sn ns 0 F sv (learnL L ip m (t + d)) (stObj 2 ip m (.slice B1 bs.length c1) b)) := Lib.hid ⟨hC, (by have h := owns_at R4.out (fun g hg => hK g (Or.inl hg)); rw [List.take_zero, List.append_nil]; exact h), hP, fun k hk => ⟨(hF k hk).1, fun e => (hF k hk).2 (Or.inl e)⟩, (hK G (Or.inr rfl)).trans M4.out, fun e => NG.out G e rfl⟩); clear hC hP hF hK)
                clear XA b0 b1 b2 b3 b4 b5 b6 b7 b8 b9 C4 M4 R4 NG
                obtain ⟨A5, c5, rfl⟩ : ∃ A c, sv = .slice A ns.length c := by
                  obtain ⟨A, c, h⟩ := T5.out.pks.shape
                  exact ⟨A, c, by rw [h, List.length_map]⟩
                go_wp2_with fail
                go_loopw [6, 8, 15, 16] (fun s6 s8 s15 s16 wx => ∃ (j : Nat) (la : Int), s6 = .int .i64 ((td : Int) + (j : Int)) ∧ s15 = .int .i64 la ∧ s16 = .int .i64 (j : Int) ∧ j ≤ ns.length ∧ (∀ n ∈ ns.drop j, la < (n : Int)) ∧ Tl w wx p G s8 sn ns j F (.slice A5 ns.length c5) (learnL L ip m (t + d)) (stObj 2 ip m (.slice B1 bs.length c1) b)) (fun _ _ _ s16 _ => ns.length - (intOf s16).toNat)
                case atStart => exact ⟨0, -1, by simp, rfl, rfl, Nat.zero_le _, fun n _ => by omega, T5.out⟩
                case round =>
                  obtain ⟨j, la, rfl, rfl, rfl, hj, hla, hT⟩ := hrel
                  have HT := Lib.hid hT
                  have Hla := Lib.hid hla
                  clear hT hla T5
                  by_cases hjl : j < ns.length
                  · have r1 : decide ((j : Int) < (ns.length : Int)) = true := decide_eq_true (by omega)
                    go_upto_region 27 with fail
                    obtain ⟨n, hnj⟩ : ∃ n, ns[j]? = some n := ⟨ns[j], List.getElem?_eq_getElem hjl⟩
                    have hmem := List.mem_of_getElem? hnj
                    obtain ⟨hni, hno, hnsn⟩ := Hnn.out n hmem
                    obtain ⟨g5, y5, e5, B5, d5, hv5, hr5⟩ := HT.out.pks.texts j (pkt n) (by rw [List.getElem?_map, hnj]; rfl)
                    have e5a := (slice_inj e5).1
                    subst e5a
                    obtain ⟨g6, o6, c6, x, y, e6, hx, hy, hx0, hx1, hy0, hy1, hxy⟩ := pkt_cells hr5 (by omega)
                    rw [e6] at hv5
                    obtain ⟨g2, o2, e2, _, hc2⟩ := HO.out n (by omega)
                    obtain ⟨rfl, rfl⟩ : g1 = g2 ∧ o1 = o2 := by cases e2; exact ⟨rfl, rfl⟩
                    have hc2 := (HT.out.cx.base.cell (World.block_lt_of_cell? w _ hc2)).trans hc2
                    rw [hno] at hc2
                    have hb1 := (step_box HT.out.box).2.1
                    have l1 : decide ((n : Int) ≤ la) = false := decide_eq_false (by have := Hla.out n (List.mem_of_getElem? (i := 0) (by rw [List.getElem?_drop]; simpa using hnj)); omega)
                    have l2 : decide ((i : Int) < (n : Int)) = false := decide_eq_false (by omega)
                    obtain ⟨A8, c8, e8, hA8⟩ := owns_shape HT.out.row
                    obtain ⟨n8, hn8⟩ : ∃ n8, (sn ++ ns.take j).length = n8 := ⟨_, rfl⟩
                    have Hn8 := Lib.hid hn8
                    rw [hn8] at e8 hA8
                    subst e8
                    clear hn8
                    have Hnj := Lib.hid hnj
                    have Hsn := Lib.hid hnsn
                    clear hnj hmem hno hnsn e5 e6 e2 hr5
                    have HX := Lib.hid (And.intro hx (And.intro hy (And.intro hxy (And.intro hx0 (And.intro hx1 (And.intro hy0 hy1))))))
                    have HC2 := Lib.hid hc2
                    have HB1 := Lib.hid hb1
                    have HL12 := Lib.hid (And.intro l1 l2)
                    have HA8 := Lib.hid hA8
                    have Hni := Lib.hid hni
                    clear hx hy hx0 hx1 hy0 hy1 hxy hc2 hb1 l1 l2 hA8 hni
                    have hq : (j : Int) < (ns.length : Int) := by omega
                    go_upto_region 29 with fail
                    obtain ⟨hx, hy, hxy, hx0, hx1, hy0, hy1⟩ := HX.out
                    go_quiet (fail)
                    have hc2 := HC2.out
                    have hb1 := HB1.out
                    obtain ⟨l1, l2⟩ := HL12.out
                    have hnM : n < M := by have := Hni.out; omega
                    have l3 : decide ((n : Int) > (i : Int)) = false := decide_eq_false (by have := Hni.out; omega)
                    have l4 : decide (i < n) = false := decide_eq_false (by have := Hni.out; omega)
                    go_upto_region 30 with fail
                    go_quiet (fail)
                    clear hx hy hxy hx0 hx1 hy0 hy1 hc2 hb1 hv5 l3 l4
                    have hrow := HT.out.row
                    rw [Hn8.out] at hrow
                    have Hrow := Lib.hid hrow
                    clear hrow
                    go_wp2_with fail
                    have hn8' : n8 ≤ 300 := by have h := Hn8.out; rw [List.length_append, List.length_take] at h; have := Hsl.out; omega
                    have HB0 := Lib.hid (Below.refl wr.heap.size wr)
                    go_loopw [18] (fun s18 wy => ∃ q : Nat, s18 = .int .i64 (q : Int) ∧ q ≤ n8 ∧ Below wr.heap.size wr wy) (fun s18 _ => n8 - (intOf s18).toNat)
                    case atStart => exact ⟨0, rfl, Nat.zero_le _, below_dN (below_dN HB0.out _) _⟩
                    case round =>
                      obtain ⟨q, rfl, hq2, hB2⟩ := hrel
                      have HB2 := Lib.hid hB2
                      clear hB2
                      by_cases hql : q < n8
                      · have r2 : decide ((q : Int) < (n8 : Int)) = true := decide_eq_true (by omega)
                        obtain ⟨x8, hx8⟩ : ∃ x, (sn ++ ns.take j)[q]? = some x := ⟨_, List.getElem?_eq_getElem (by rw [Hn8.out]; exact hql)⟩
                        have hne := not_told Hpw.out Hnj.out Hsn.out (List.mem_of_getElem? hx8)
                        obtain ⟨g8, rfl⟩ := HA8.out (by omega)
                        have hcl := owns_cell Hrow.out (v := .int .i64 (x8 : Int)) (by rw [List.getElem?_map, hx8]; rfl)
                        have hcl := (HB2.out.cell (World.block_lt_of_cell? _ _ hcl)).trans hcl
                        clear hx8
                        go_wp2_with fail
                        exact ⟨⟨q + 1, by simp, by omega, HB2.out⟩, by simp [intOf]; omega⟩
                      · have r2 : decide ((q : Int) < (n8 : Int)) = false := decide_eq_false (by omega)
                        obtain ⟨i0, i1, i2, i3, i4⟩ := info_parts intInfo
                        have hbase := Lib.hid (Nat.le_trans HT.out.cx.base.size HB2.out.size)
                        go_upto_region 37 with fail
                        generalize Value.slice A8 n8 c8 = v8 at HT Hrow ⊢
                        go_wp2_with (at_builtin; refine wpList_append_own_at _ rfl _ _ 57 rfl w.heap.size 3 i0 (.int .i64 0) 1 8 Try.underlying57 i1 i2 i3 i4 rfl (by decide) _ _ _ rfl ((owns_at Hrow.out (fun g hg => HB2.out.block g (Hrow.out.lt g hg).2)).alloc _) ⟨wr.heap.size, 0, none⟩ 1 1 [.int .i64 (n : Int)] rfl rfl (cells_oneI wr n) (by simp [Value.oneCell']) (by unfold maxLen; omega) (by omega) (by have := hbase.out; simp; omega) ?_; intro v' w8 hown' hgrow hnil' hat; have HNx := Lib.hid (HT.out.next Hnj.out HB2.out (by rw [Hn8.out]; exact hown') hgrow hat); clear hown' hgrow hnil' hat)
                        exact ⟨⟨j + 1, (n : Int), by simp; omega, rfl, by simp, by omega, drop_lt Hpw.out Hnj.out, HNx.out⟩, by simp [intOf]; omega⟩
                  · have r1 : decide ((j : Int) < (ns.length : Int)) = false := decide_eq_false (by omega)
                    obtain rfl : j = ns.length := by omega
                    go_wp2_with fail
                    have hs := Hsum.out
                    have hp := Hpl.out
                    exact ⟨⟨i + 1, tk, td + ns.length, t + d, sn ++ ns, _, rfl, by simp, rfl, by simp, by omega, by omega, by omega, by omega, by omega, by omega, by have := Hsl.out; rw [List.length_append]; omega, Hnew.out.mono (by omega) (Int.le_refl _), HT.out.cx.drop (fun k hk => Or.inl hk), (by have h := HT.out.row; rw [List.take_length] at h; exact h)⟩, by simp [intOf]; omega⟩
              · by_cases h3 : kd = 3
                · subst h3
                  obtain ⟨ns, hns, hpw, hnn⟩ := Hinv.out.told ip
                  have XA := Lib.hid (C4.out.learn_lt (ip := ip) (now := t + d) (m := m) Hi.out Ht2.out)
                  unfold Mc.val at XA
                  have hpl := pend_learn (ip := ip) (m := m) (now := t + d) C4.out.srt C4.out.ok
                  rw [hns] at XA
                  have hnl : ns.length ≤ 4 := by have := learn_few (ip := ip) C4.out.ok; rw [hns] at this; simpa using this
                  rw [hns, List.length_map] at hpl
                  have hbn : td + ns.length ≤ 300 := by have := Hsum.out; omega
                  have Hpw := Lib.hid hpw
                  have Hnn := Lib.hid hnn
                  have Hpl := Lib.hid hpl
                  have Hnew := Lib.hid (Hinv.out.learn (m := m) C4.out.srt (fun n hn => ⟨(hnn n hn).1, (hnn n hn).2.1⟩))
                  clear hns hpw hnn hpl
                  go_upto_region 23 with (go_at_call 13; (with_reducible refine XA.out.mono ?_); rintro e w5 ⟨sv, rfl, ⟨F, hP, hF⟩, hC, hK⟩; (have T5 : Hid (Tl w w5 p G u8 sn ns 0 F sv (learnL L ip m (t + d)) (stObj 3 ip m (.slice B1 bs.length c1) b)) := Lib.hid ⟨hC, (by have h := owns_at R4.out (fun g hg => hK g (Or.inl hg)); rw [List.take_zero, List.append_nil]; exact h), hP, fun k hk => ⟨(hF k hk).1, fun e => (hF k hk).2 (Or.inl e)⟩, (hK G (Or.inr rfl)).trans M4.out, fun e => NG.out G e rfl⟩); clear hC hP hF hK)
                  clear XA b0 b1 b2 b3 b4 b5 b6 b7 b8 b9 C4 M4 R4 NG
                  obtain ⟨A5, c5, rfl⟩ : ∃ A c, sv = .slice A ns.length c := by
                    obtain ⟨A, c, h⟩ := T5.out.pks.shape
                    exact ⟨A, c, by rw [h, List.length_map]⟩
                  go_wp2_with fail
                  go_loopw [6, 8, 15, 16] (fun s6 s8 s15 s16 wx => ∃ (j : Nat) (la : Int), s6 = .int .i64 ((td : Int) + (j : Int)) ∧ s15 = .int .i64 la ∧ s16 = .int .i64 (j : Int) ∧ j ≤ ns.length ∧ (∀ n ∈ ns.drop j, la < (n : Int)) ∧ Tl w wx p G s8 sn ns j F (.slice A5 ns.length c5) (learnL L ip m (t + d)) (stObj 3 ip m (.slice B1 bs.length c1) b)) (fun _ _ _ s16 _ => ns.length - (intOf s16).toNat)
                  case atStart => exact ⟨0, -1, by simp, rfl, rfl, Nat.zero_le _, fun n _ => by omega, T5.out⟩
                  case round =>
                    obtain ⟨j, la, rfl, rfl, rfl, hj, hla, hT⟩ := hrel
                    have HT := Lib.hid hT
                    have Hla := Lib.hid hla
                    clear hT hla T5
                    by_cases hjl : j < ns.length
                    · have r1 : decide ((j : Int) < (ns.length : Int)) = true := decide_eq_true (by omega)
                      go_upto_region 27 with fail
                      obtain ⟨n, hnj⟩ : ∃ n, ns[j]? = some n := ⟨ns[j], List.getElem?_eq_getElem hjl⟩
                      have hmem := List.mem_of_getElem? hnj
                      obtain ⟨hni, hno, hnsn⟩ := Hnn.out n hmem
                      obtain ⟨g5, y5, e5, B5, d5, hv5, hr5⟩ := HT.out.pks.texts j (pkt n) (by rw [List.getElem?_map, hnj]; rfl)
                      have e5a := (slice_inj e5).1
                      subst e5a
                      obtain ⟨g6, o6, c6, x, y, e6, hx, hy, hx0, hx1, hy0, hy1, hxy⟩ := pkt_cells hr5 (by omega)
                      rw [e6] at hv5
                      obtain ⟨g2, o2, e2, _, hc2⟩ := HO.out n (by omega)
                      obtain ⟨rfl, rfl⟩ : g1 = g2 ∧ o1 = o2 := by cases e2; exact ⟨rfl, rfl⟩
                      have hc2 := (HT.out.cx.base.cell (World.block_lt_of_cell? w _ hc2)).trans hc2
                      rw [hno] at hc2
                      have hb1 := (step_box HT.out.box).2.1
                      have l1 : decide ((n : Int) ≤ la) = false := decide_eq_false (by have := Hla.out n (List.mem_of_getElem? (i := 0) (by rw [List.getElem?_drop]; simpa using hnj)); omega)
                      have l2 : decide ((i : Int) < (n : Int)) = false := decide_eq_false (by omega)
                      obtain ⟨A8, c8, e8, hA8⟩ := owns_shape HT.out.row
                      obtain ⟨n8, hn8⟩ : ∃ n8, (sn ++ ns.take j).length = n8 := ⟨_, rfl⟩
                      have Hn8 := Lib.hid hn8
                      rw [hn8] at e8 hA8
                      subst e8
                      clear hn8
                      have Hnj := Lib.hid hnj
                      have Hsn := Lib.hid hnsn
                      clear hnj hmem hno hnsn e5 e6 e2 hr5
                      have HX := Lib.hid (And.intro hx (And.intro hy (And.intro hxy (And.intro hx0 (And.intro hx1 (And.intro hy0 hy1))))))
                      have HC2 := Lib.hid hc2
                      have HB1 := Lib.hid hb1
                      have HL12 := Lib.hid (And.intro l1 l2)
                      have HA8 := Lib.hid hA8
                      have Hni := Lib.hid hni
                      clear hx hy hx0 hx1 hy0 hy1 hxy hc2 hb1 l1 l2 hA8 hni
                      have hq : (j : Int) < (ns.length : Int) := by omega
                      go_upto_region 29 with fail
                      obtain ⟨hx, hy, hxy, hx0, hx1, hy0, hy1⟩ := HX.out
                      go_quiet (fail)
                      have hc2 := HC2.out
                      have hb1 := HB1.out
                      obtain ⟨l1, l2⟩ := HL12.out
                      have hnM : n < M := by have := Hni.out; omega
                      have l3 : decide ((n : Int) > (i : Int)) = false := decide_eq_false (by have := Hni.out; omega)
                      have l4 : decide (i < n) = false := decide_eq_false (by have := Hni.out; omega)
                      go_upto_region 30 with fail
                      go_quiet (fail)
                      clear hx hy hxy hx0 hx1 hy0 hy1 hc2 hb1 hv5 l3 l4
                      have hrow := HT.out.row
                      rw [Hn8.out] at hrow
                      have Hrow := Lib.hid hrow
                      clear hrow
                      go_wp2_with fail
                      have hn8' : n8 ≤ 300 := by have h := Hn8.out; rw [List.length_append, List.length_take] at h; have := Hsl.out; omega
                      have HB0 := Lib.hid (Below.refl wr.heap.size wr)
                      go_loopw [18] (fun s18 wy => ∃ q : Nat, s18 = .int .i64 (q : Int) ∧ q ≤ n8 ∧ Below wr.heap.size wr wy) (fun s18 _ => n8 - (intOf s18).toNat)
                      case atStart => exact ⟨0, rfl, Nat.zero_le _, below_dN (below_dN HB0.out _) _⟩
                      case round =>
                        obtain ⟨q, rfl, hq2, hB2⟩ := hrel
                        have HB2 := Lib.hid hB2
                        clear hB2
                        by_cases hql : q < n8
                        · have r2 : decide ((q : Int) < (n8 : Int)) = true := decide_eq_true (by omega)
                          obtain ⟨x8, hx8⟩ : ∃ x, (sn ++ ns.take j)[q]? = some x := ⟨_, List.getElem?_eq_getElem (by rw [Hn8.out]; exact hql)⟩
                          have hne := not_told Hpw.out Hnj.out Hsn.out (List.mem_of_getElem? hx8)
                          obtain ⟨g8, rfl⟩ := HA8.out (by omega)
                          have hcl := owns_cell Hrow.out (v := .int .i64 (x8 : Int)) (by rw [List.getElem?_map, hx8]; rfl)
                          have hcl := (HB2.out.cell (World.block_lt_of_cell? _ _ hcl)).trans hcl
                          clear hx8
                          go_wp2_with fail
                          exact ⟨⟨q + 1, by simp, by omega, HB2.out⟩, by simp [intOf]; omega⟩
                        · have r2 : decide ((q : Int) < (n8 : Int)) = false := decide_eq_false (by omega)
                          obtain ⟨i0, i1, i2, i3, i4⟩ := info_parts intInfo
                          have hbase := Lib.hid (Nat.le_trans HT.out.cx.base.size HB2.out.size)
                          go_upto_region 37 with fail
                          generalize Value.slice A8 n8 c8 = v8 at HT Hrow ⊢
                          go_wp2_with (at_builtin; refine wpList_append_own_at _ rfl _ _ 57 rfl w.heap.size 3 i0 (.int .i64 0) 1 8 Try.underlying57 i1 i2 i3 i4 rfl (by decide) _ _ _ rfl ((owns_at Hrow.out (fun g hg => HB2.out.block g (Hrow.out.lt g hg).2)).alloc _) ⟨wr.heap.size, 0, none⟩ 1 1 [.int .i64 (n : Int)] rfl rfl (cells_oneI wr n) (by simp [Value.oneCell']) (by unfold maxLen; omega) (by omega) (by have := hbase.out; simp; omega) ?_; intro v' w8 hown' hgrow hnil' hat; have HNx := Lib.hid (HT.out.next Hnj.out HB2.out (by rw [Hn8.out]; exact hown') hgrow hat); clear hown' hgrow hnil' hat)
                          exact ⟨⟨j + 1, (n : Int), by simp; omega, rfl, by simp, by omega, drop_lt Hpw.out Hnj.out, HNx.out⟩, by simp [intOf]; omega⟩
                    · have r1 : decide ((j : Int) < (ns.length : Int)) = false := decide_eq_false (by omega)
                      obtain rfl : j = ns.length := by omega
                      go_wp2_with fail
                      have hs := Hsum.out
                      have hp := Hpl.out
                      exact ⟨⟨i + 1, tk, td + ns.length, t + d, sn ++ ns, _, rfl, by simp, rfl, by simp, by omega, by omega, by omega, by omega, by omega, by omega, by have := Hsl.out; rw [List.length_append]; omega, Hnew.out.mono (by omega) (Int.le_refl _), HT.out.cx.drop (fun k hk => Or.inl hk), (by have h := HT.out.row; rw [List.take_length] at h; exact h)⟩, by simp [intOf]; omega⟩
                · by_cases h4 : kd = 4
                  · subst h4
                    have XT := Lib.hid (C4.out.tick (now := t + d) Ht2.out)
                    have hpt := pend_tick (L := L) (now := t + d)
                    have hbn : td + tickN L (t + d) ≤ 300 := by have := Hsum.out; omega
                    go_wp2_with (go_at_call 16; (with_reducible refine XT.out.mono ?_); rintro e w5 ⟨dv, rfl, _, hC, hK⟩; (have C5 := Lib.hid hC); (have K5 := Lib.hid hK); clear hC hK)
                    have hs := Hsum.out
                    exact ⟨⟨i + 1, tk, td + tickN L (t + d), t + d, sn, _, rfl, by simp, rfl, by simp, by omega, by omega, by omega, by omega, by omega, by omega, by have := Hsl.out; omega, (Hinv.out.tick).mono (by omega) (Int.le_refl _), C5.out.drop (fun k hk => Or.inl hk), owns_at R4.out (fun g hg => K5.out g (Or.inl hg))⟩, by simp [intOf]; omega⟩
                  · have r0 : (kd == 0) = false := by simp [h0]
                    have r1 : (kd == 1) = false := by simp [h1]
                    have r2 : (kd == 2) = false := by simp [h2]
                    have r3 : (kd == 3) = false := by simp [h3]
                    have r4 : (kd == 4) = false := by simp [h4]
                    clear h0 h1 h2 h3 h4
                    go_wp2_with fail
                    exact ⟨⟨i + 1, tk, td, t + d, sn, L, rfl, rfl, rfl, by simp, by omega, by omega, by omega, by omega, by omega, Hsum.out, Hsl.out, Hinv.out.mono (by omega) (Int.le_refl _), C4.out.drop (fun k hk => Or.inl hk), R4.out⟩, by simp [intOf]; omega⟩
        · have q2 : decide ((i : Int) < 300) = false := decide_eq_false (by omega)
          go_wp2_with fail
          go_meet
          case rel => exact ⟨i, tk, td, t, sn, L, _, rfl, rfl, rfl, HOn.out⟩
      · have q1 : decide ((i : Int) < (M : Int)) = false := decide_eq_false (by omega)
        go_wp2_with fail
        go_meet
        case rel => exact ⟨i, tk, td, t, sn, L, _, rfl, rfl, rfl, HOn.out⟩
  case rest =>
    obtain ⟨i, tk, td, t, sn, L, sv, rfl, rfl, rfl, hOn⟩ := hcut
    have HOn := Lib.hid hOn
    have ht0 := hOn.t0
    have ht1 := hOn.t1
    have hi3 := hOn.h3
    have htk := hOn.took
    have Hs := Lib.hid hOn.sum
    have htd : td ≤ tk := by have := hOn.sum; omega
    clear hOn C0
    have HF := Lib.hid (Fin.zero HOn.out.inv HOn.out.cx.ok)
    have HC := Lib.hid HOn.out.cx
    clear HOn
    go_wp2_with fail
    go_loopw [6, 7, 21] (fun s6 s7 s21 wx => ∃ (j td' : Nat) (L' : List En), s6 = .int .i64 (td' : Int) ∧ s7 = .int .u64 (t + 2 * (j : Int)) ∧ s21 = .int .i64 (j : Int) ∧ j ≤ 100 ∧ tk = td' + pend L' ∧ Fin t j L' ∧ Cx w (fun k => sv.ownBlock = some k) wx p L') (fun _ _ s21 _ => 100 - (intOf s21).toNat)
    case atStart => exact ⟨0, td, L, rfl, by simp, rfl, Nat.zero_le _, Hs.out, HF.out, HC.out⟩
    case round =>
      obtain ⟨j, td', L', rfl, rfl, rfl, hj, hs', hF, hC⟩ := hrel
      have HF' := Lib.hid hF
      have HC' := Lib.hid hC
      clear hF hC HF HC
      by_cases hjl : j < 100
      · have q1 : decide ((j : Int) < 100) = true := decide_eq_true (by omega)
        have ec : ((j + 1 : Nat) : Int) = (j : Int) + 1 := by simp
        have Ec := Lib.hid ec
        have qn : IntKind.u64.wrap (t + 2 * (j : Int) + 2) = t + 2 * ((j : Int) + 1) := by rw [IntKind.wrap_u64]; omega
        have XT := Lib.hid (HC'.out.tick (now := t + 2 * ((j : Int) + 1)) (by unfold U64; omega))
        have hpt := pend_tick (L := L') (now := t + 2 * ((j : Int) + 1))
        have hbn : td' + tickN L' (t + 2 * ((j : Int) + 1)) ≤ 300 := by omega
        have Hs' := Lib.hid hs'
        have Hpt := Lib.hid hpt
        clear ec hs' hpt
        go_wp2_with (go_at_call 16; (with_reducible refine XT.out.mono ?_); rintro e w5 ⟨dv, rfl, _, hC, hK⟩; (have C5 := Lib.hid hC); clear hC hK)
        have hs' := Hs'.out
        have hpt := Hpt.out
        exact ⟨⟨j + 1, td' + tickN L' (t + 2 * ((j : Int) + 1)), _, by simp, by rw [Ec.out], by simp, by omega, by omega, by have h := HF'.out.tick; rw [Ec.out] at h; exact h, C5.out⟩, by simp [intOf]; omega⟩
      · have q1 : decide ((j : Int) < 100) = false := decide_eq_false (by omega)
        obtain rfl : j = 100 := by omega
        obtain rfl : L' = [] := HF'.out.gone HC'.out.ok
        obtain rfl : td' = tk := hs'.symm
        have XL := Lib.hid HC'.out.len
        clear hs'
        go_wp2_with (go_at_call 21; (with_reducible refine XL.out.mono ?_); rintro e w5 ⟨rfl, rfl⟩)
        go_ret
        exact ⟨rfl, HC'.out.base⟩
end Go.Proofs.Ytfeipeninmclkaa
