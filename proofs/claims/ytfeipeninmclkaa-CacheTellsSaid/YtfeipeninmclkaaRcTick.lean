/-
  What is proved: the document's Tick by contract.
  Conditions: the time fits its type.
-/
import Derived.Test.YtfeipeninmclkaaRcTk
namespace Go.Proofs.Ytfeipeninmclkaa
open Go.RowKit

def RTickAt (L : List En) (now : Int) (p : Nat) (F : Nat → Prop) (w : World) (e : Ending) (w' : World) : Prop :=
  ∃ dv v' F' P', e = .returned (.tuple #[dv, .int .i64 (tickN L now : Nat)]) ∧ IpsAt w' dv (tickA L now) ∧ P'.map Xe.e = tickL L now ∧ Rc w' p F' v' P' ∧ Did w w' F F'
theorem goes_eq (e : En) (now : Int) : goes e now = (old e now || ((!e.kn && decide (2 ≤ age e now)) && decide (3 ≤ e.tr))) := rfl
theorem again_eq (e : En) (now : Int) : again e now = ((!e.kn && decide (2 ≤ age e now)) && !decide (3 ≤ e.tr)) := rfl
theorem av_ne {W : World} {o : Obj} {av av' : Value} {G : Nat} (hat : av'.ownBlock = av.ownBlock ∨ av'.ownBlock = some (W.alloc o).heap.size) (ha : ∀ g, av.ownBlock = some g → g ≠ G) (hG : G < W.heap.size) : ∀ g, av'.ownBlock = some g → g ≠ G := by
  intro g hg e
  rcases hat with h | h
  · exact ha g (h ▸ hg) e
  · rw [h] at hg
    have := Option.some.inj hg
    simp at this
    omega
theorem old_kn {e : En} {now : Int} (h : old e now = true) : e.kn = true := by
  unfold old at h
  simp only [Bool.and_eq_true] at h
  exact h.1

set_option maxRecDepth 100000 in
set_option maxHeartbeats 8000000 in
theorem rtick_any (P : List Xe) (now : Int) (hn : U64 now) (p : Nat) (F : Nat → Prop) (v : Value) (w : World) (h : Rc w p F v P) :
    Calls Try.prog 17 #[.pointer (some ⟨p, 0, none⟩), .int .u64 now] w (RTickAt (P.map Xe.e) now p F w) := by
  obtain ⟨A, c, rfl, hc1, hc2, _⟩ := h.open
  have HH := Lib.hid h
  have h32 := h.few
  have HN := Lib.hid hn
  have HS := Lib.hid (Tq.start w P now)
  obtain ⟨i0, i1, i2, i3, i4⟩ := info_parts ip_info
  have HInfo := Lib.hid (And.intro i1 (And.intro i2 (And.intro i3 i4)))
  clear h hn i1 i2 i3 i4
  go_enter Try.func17, Try.ntmps17
  go_wp2_with fail
  go_loopw [6, 7, 8, 9] (fun s6 s7 s8 s9 wr => ∃ k : Nat, s7 = .int .i64 ((tickN ((P.map Xe.e).take k) now : Nat) : Int) ∧ s9 = .int .i64 (k : Int) ∧ k ≤ P.length ∧ Tq w P now k k s6 s8 wr) (fun _ _ _ s9 _ => P.length - (intOf s9).toNat)
  case atStart => exact ⟨0, rfl, rfl, Nat.zero_le _, HS.out⟩
  case round =>
    obtain ⟨k, rfl, rfl, hk, hT⟩ := hrel
    have HT := Lib.hid hT
    have HR := Lib.hid (HH.out.below hT.old)
    clear hT HS
    have hp := HR.out.cell
    by_cases hlt : k < P.length
    · have q1 : decide ((k : Int) < (P.length : Int)) = true := decide_eq_true (by omega)
      obtain ⟨t, ht⟩ : ∃ t, P[k]? = some t := ⟨P[k], List.getElem?_eq_getElem hlt⟩
      obtain ⟨A', c', hv, _, _, hRI, _⟩ := HR.out.open
      obtain ⟨rfl, _, rfl⟩ := slice_inj hv
      obtain ⟨g, o, rfl, hX⟩ := hRI k t ht
      have Ht := Lib.hid ht
      have hok := HR.out.ok t (List.mem_of_getElem? ht)
      have Hok := Lib.hid hok
      have XO := Lib.hid (fun W => xold_any t now hok.t HN.out W)
      have XA := Lib.hid (fun W => xage_any t now hok.t HN.out W)
      have hau := age_u64 hok.t HN.out
      have hNl := tickN_le (L := P.map Xe.e) (fun e he => by
        obtain ⟨y, hy, rfl⟩ := List.mem_map.1 he
        exact HR.out.ok y hy) now k
      rw [List.length_map] at hNl
      have hnx := tickN_next (L := P.map Xe.e) (k := k) (e := t.e) now (by rw [List.getElem?_map, ht]; rfl)
      have hpl := hok.few
      obtain ⟨N, hN⟩ : ∃ N, tickN ((P.map Xe.e).take k) now = N := ⟨_, rfl⟩
      rw [hN] at hNl hnx ⊢
      have Hnx := Lib.hid hnx
      obtain ⟨od, hod⟩ : ∃ od, old t.e now = od := ⟨_, rfl⟩
      obtain ⟨a, ha⟩ : ∃ a, age t.e now = a := ⟨_, rfl⟩
      have hgo := goes_eq t.e now
      have hag := again_eq t.e now
      rw [hod, ha] at hgo
      rw [ha] at hag
      rw [hod] at XO
      rw [ha] at XA hau
      have Hgo := Lib.hid hgo
      have Hag := Lib.hid hag
      have Hod := Lib.hid hod
      have HT6 := Lib.hid (HT.out.below ((Below.refl _ wr).alloc (Nat.le_refl _) t.obj))
      have HX6 := Lib.hid (XAt.new wr t)
      have HGa : Hid (∀ g, u6.ownBlock = some g → g ≠ wr.heap.size) := Lib.hid (fun g hg e => by have := (HT.out.asks.lt g hg).2; omega)
      have HGk : Hid (∀ g, u8.ownBlock = some g → g ≠ wr.heap.size) := Lib.hid (fun g hg e => by have := (HT.out.kept.lt g hg).2; omega)
      have HGw := Lib.hid HT.out.old.size
      have hM6 := Lib.hid (heap_alloc_new wr t.obj)
      unfold Xe.obj Xe.arr at HT6 HX6 hM6
      unfold Xe.val Xe.arr at XO XA
      obtain ⟨c0, c1, c2, c3, c4, c5, c6, c7, c8, c9, c10⟩ := hX
      clear hv hRI ht hok hnx hN hod ha hgo hag HT HR
      go_upto_region 8 with (refine wpList_store_row rfl 74 (.tmp 10) (.tmp 27) rfl wr.heap.size #[.int .u32 t.e.ip, .bool t.e.kn, .int .u8 t.e.m.a, .int .u8 t.e.m.b, .int .u8 t.e.m.c, .int .u8 t.e.m.d, .int .u8 t.e.m.e, .int .u8 t.e.m.f, .int .u64 t.e.t, .int .i64 t.e.tr, .slice t.A t.e.pk.length t.c] rfl rfl 74 _ (heap_alloc_new wr _) xSize rfl (by simp [Value.oneCell']) ?_; rw [setRow_alloc])
      try simp only [Act.put]
      generalize wr.alloc (.cells #[.int .u32 t.e.ip, .bool t.e.kn, .int .u8 t.e.m.a, .int .u8 t.e.m.b, .int .u8 t.e.m.c, .int .u8 t.e.m.d, .int .u8 t.e.m.e, .int .u8 t.e.m.f, .int .u64 t.e.t, .int .i64 t.e.tr, .slice t.A t.e.pk.length t.c] 74) = w6 at HT6 HX6 hM6 ⊢
      generalize wr.heap.size = G at HX6 hM6 HGa HGk HGw ⊢
      clear c0 c1 c2 c3 c4 c5 c6 c7 c8 c9 c10 hp
      obtain ⟨b0, b1, b2, b3, b4, b5, b6, b7, b8, b9, b10⟩ := HX6.out.flat
      cases od with
      | true =>
        have hkn := old_kn Hod.out
        have hgt : goes t.e now = true := by rw [Hgo.out]; rfl
        have hn0 : t.e.pk.length = 0 := by rw [Hok.out.kn hkn]; rfl
        have Hn2 : Hid (tickN ((P.map Xe.e).take (k + 1)) now = N) := Lib.hid (by rw [Hnx.out, if_pos hgt, hn0, Nat.add_zero])
        have HTn := Lib.hid ((HT6.out.noask Ht.out (not_again hgt)).gone Ht.out hgt)
        clear hkn hgt hn0 XA
        go_wp2_with (go_at_call 27; (with_reducible refine (XO.out _).mono ?_); rintro e w7 ⟨rfl, h1⟩; (have H7 := Lib.hid h1); clear h1)
        exact ⟨⟨k + 1, by rw [Hn2.out], by simp, by omega, HTn.out.below H7.out⟩, by simp [intOf]; omega⟩
      | false =>
        go_upto_region 9 with (go_at_call 27; (with_reducible refine (XO.out _).mono ?_); rintro e w7 ⟨rfl, h1⟩; (have H7 := Lib.hid h1); clear h1)
        have HT7 := Lib.hid (HT6.out.below H7.out)
        have HX7 := Lib.hid (HX6.out.below H7.out)
        have hM7 := Lib.hid ((H7.out.block G (Array.getElem?_eq_some_iff.1 hM6.out).1).trans hM6.out)
        clear b0 b1 b2 b3 b4 b5 b6 b7 b8 b9 b10 HT6 HX6 hM6 H7 XO
        obtain ⟨b0, b1, b2, b3, b4, b5, b6, b7, b8, b9, b10⟩ := HX7.out.flat
        cases hkn : t.e.kn with
        | true =>
          have hgf : goes t.e now = false := by rw [Hgo.out, hkn]; rfl
          have haf : again t.e now = false := by rw [Hag.out, hkn]; rfl
          have Hkx : Hid (keepX now t = some t) := Lib.hid (by unfold keepX; rw [if_neg (by rw [hgf]; simp), if_neg (by rw [haf]; simp)])
          have Hn2 : Hid (tickN ((P.map Xe.e).take (k + 1)) now = N) := Lib.hid (by rw [Hnx.out, if_neg (by rw [hgf]; simp), Nat.add_zero])
          have HT8 := Lib.hid (HT7.out.noask Ht.out haf)
          rw [hkn] at b1
          clear hgf haf hkn
          go_upto_region 15 with fail
          clear b0 b1 b2 b3 b4 b5 b6 b7 b8 b9 b10
          obtain ⟨b0, b1, b2, b3, b4, b5, b6, b7, b8, b9, b10⟩ := HX7.out.flat
          obtain ⟨kv9, w9, hrun, hown9, hg9⟩ := HT8.out.run h32 t
          have HO9 := Lib.hid hown9
          have HG9 := Lib.hid hg9
          unfold Xe.arr at hrun
          (try simp only [next] at hrun)
          clear hown9 hg9
          go_wp2_with (at_builtin; refine wpList_append_eq rfl _ _ 28 rfl _ _ rfl rfl kv9 w9 hrun ?_)
          exact ⟨⟨k + 1, by rw [Hn2.out], by simp, by omega, HT8.out.app Ht.out Hkx.out HO9.out HG9.out⟩, by simp [intOf]; omega⟩
        | false =>
          rw [hkn] at b1 XA
          by_cases h2 : 2 ≤ a
          · have q2 : decide (2 ≤ a) = true := decide_eq_true h2
            by_cases h3 : 3 ≤ t.e.tr
            · have q3 : decide (3 ≤ t.e.tr) = true := decide_eq_true h3
              have hgt : goes t.e now = true := by rw [Hgo.out, hkn, q2, q3]; rfl
              have Hn2 : Hid (tickN ((P.map Xe.e).take (k + 1)) now = N + t.e.pk.length) := Lib.hid (by rw [Hnx.out, if_pos hgt])
              have HTn := Lib.hid ((HT7.out.noask Ht.out (not_again hgt)).gone Ht.out hgt)
              have wn : IntKind.i64.wrap ((N : Int) + (t.e.pk.length : Int)) = (N : Int) + (t.e.pk.length : Int) := by rw [IntKind.wrap_i64]; omega
              clear hkn h2 h3 hgt
              go_upto_region 10 with (go_at_call 34; (with_reducible refine (XA.out _).mono ?_); rintro e w8 ⟨rfl, h1⟩; (have b9x := (h1.cell (World.block_lt_of_cell? _ _ b9)).trans b9); (have HA_w8 := Lib.hid h1); clear h1)
              have b10 := (HA_w8.out.cell (World.block_lt_of_cell? _ _ b10)).trans b10
              clear b0 b1 b2 b3 b4 b5 b6 b7 b8 b9 b9x
              go_wp2_with fail
              exact ⟨⟨k + 1, by rw [Hn2.out]; simp, by simp, by omega, HTn.out.below HA_w8.out⟩, by simp [intOf]; omega⟩
            · have q3 : decide (3 ≤ t.e.tr) = false := decide_eq_false h3
              have hgf : goes t.e now = false := by rw [Hgo.out, hkn, q3]; simp
              have hat : again t.e now = true := by rw [Hag.out, hkn, q2, q3]; rfl
              have Hat := Lib.hid hat
              have Hkx : Hid (keepX now t = some ⟨next t.e now, t.A, t.c⟩) := Lib.hid (by unfold keepX; rw [if_neg (by rw [hgf]; simp), if_pos hat])
              have Hn2 : Hid (tickN ((P.map Xe.e).take (k + 1)) now = N) := Lib.hid (by rw [Hnx.out, if_neg (by rw [hgf]; simp), Nat.add_zero])
              have ht0 := Hok.out.tr0
              have wt : IntKind.i64.wrap (t.e.tr + 1) = t.e.tr + 1 := by rw [IntKind.wrap_i64]; omega
              have Hkn := Lib.hid hkn
              clear hkn h2 hgf hat
              go_upto_region 11 with (go_at_call 34; (with_reducible refine (XA.out _).mono ?_); rintro e w8 ⟨rfl, h1⟩; (have b9x := (h1.cell (World.block_lt_of_cell? _ _ b9)).trans b9); (have HA_w8 := Lib.hid h1); clear h1)
              have HT8 := Lib.hid (HT7.out.below HA_w8.out)
              have HX8 := Lib.hid (HX7.out.below HA_w8.out)
              have hM8 := Lib.hid ((HA_w8.out.block G (Array.getElem?_eq_some_iff.1 hM7.out).1).trans hM7.out)
              clear b0 b1 b2 b3 b4 b5 b6 b7 b8 b9 b10 b9x HT7 HX7 hM7 HA_w8
              obtain ⟨b0, b1, b2, b3, b4, b5, b6, b7, b8, b9, b10⟩ := HX8.out.flat
              rw [Hkn.out] at b1
              go_upto_region 12 with (go_at_call 34; (with_reducible refine (XA.out _).mono ?_); rintro e w10 ⟨rfl, h1⟩; (have HA_w10 := Lib.hid h1); clear h1)
              have HT10 := Lib.hid (HT8.out.below HA_w10.out)
              have HX10 := Lib.hid (HX8.out.below HA_w10.out)
              have hM10 := Lib.hid ((HA_w10.out.block G (Array.getElem?_eq_some_iff.1 hM8.out).1).trans hM8.out)
              clear b0 b1 b2 b3 b4 b5 b6 b7 b8 b9 b10 HT8 HX8 hM8 HA_w10 XA
              obtain ⟨b0, b1, b2, b3, b4, b5, b6, b7, b8, b9, b10⟩ := HX10.out.flat
              have hal := tickA_len (P.map Xe.e) now k
              have hsz := HT10.out.old.size
              obtain ⟨i1, i2, i3, i4⟩ := HInfo.out
              go_upto_region 13 with (at_builtin; refine wpList_append_own_at _ rfl _ _ 49 rfl w.heap.size 32 i0 (.int .u32 0) 1 4 Try.underlying49 i1 i2 i3 i4 rfl (by decide) _ _ _ rfl (HT10.out.asks.alloc _) ⟨w10.heap.size, 0, none⟩ 1 1 [.int .u32 t.e.ip] rfl rfl (cells_one w10 t.e.ip 32) (by simp [Value.oneCell']) (by unfold maxLen; omega) (by omega) (by simp; omega) ?_; intro av' w11 hown' hgrow hnil' hat'; have HT11 := Lib.hid (HT10.out.ask Ht.out Hat.out hown' hgrow); have hM11 : Hid (w11.heap[G]? = w10.heap[G]?) := Lib.hid ((hgrow.block G (by have := (Array.getElem?_eq_some_iff.1 hM10.out).1; simp; omega) (fun e => HGa.out G e.symm rfl)).trans (((Below.refl _ w10).alloc (Nat.le_refl _) _).block G (Array.getElem?_eq_some_iff.1 hM10.out).1)); have HGa' : Hid (∀ g, av'.ownBlock = some g → g ≠ G) := Lib.hid (av_ne hat' HGa.out (Array.getElem?_eq_some_iff.1 hM10.out).1); clear hown' hgrow hnil' hat')
              have hM12 := hM11.out.trans hM10.out
              have HX11 := Lib.hid (XAt.of_heap (x := t) hM12)
              clear b0 b1 b2 b3 b4 b5 b6 b7 b8 b9 b10 i1 i2 i3 i4 HX10 hM10 hM11 HT10 HGa
              have hfz : w11.frozen? ⟨G, 9, none⟩ = false := by simp [World.frozen?, hM12]
              have hfz8 : w11.frozen? ⟨G, 8, none⟩ = false := by simp [World.frozen?, hM12]
              have HM12 := Lib.hid hM12
              clear hM12
              obtain ⟨b0, b1, b2, b3, b4, b5, b6, b7, b8, b9, b10⟩ := HX11.out.flat
              go_upto_region 15 with fail
              have HM13 : Hid (((w11.setCell ⟨G, 9, none⟩ (.int .i64 (t.e.tr + 1))).setCell ⟨G, 8, none⟩ (.int .u64 now)).heap[G]? = some (.cells #[.int .u32 t.e.ip, .bool t.e.kn, .int .u8 t.e.m.a, .int .u8 t.e.m.b, .int .u8 t.e.m.c, .int .u8 t.e.m.d, .int .u8 t.e.m.e, .int .u8 t.e.m.f, .int .u64 now, .int .i64 (t.e.tr + 1), .slice t.A t.e.pk.length t.c] 74)) := Lib.hid (by
                have h := HM12.out
                unfold World.setCell
                simp only [Array.getElem?_modify, if_true, h, Option.map_some]
                rfl)
              have HT13 := Lib.hid ((HT11.out.box HGw.out HGa'.out HGk.out 9 (.int .i64 (t.e.tr + 1))).box HGw.out HGa'.out HGk.out 8 (.int .u64 now))
              generalize (w11.setCell ⟨G, 9, none⟩ (.int .i64 (t.e.tr + 1))).setCell ⟨G, 8, none⟩ (.int .u64 now) = w13 at HM13 HT13 ⊢
              clear b0 b1 b2 b3 b4 b5 b6 b7 b8 b9 b10 HX11 HM12 HT11 hfz hfz8
              obtain ⟨b0, b1, b2, b3, b4, b5, b6, b7, b8, b9, b10⟩ := (XAt.of_heap (x := ⟨next t.e now, t.A, t.c⟩) HM13.out).flat
              simp only [next] at b0 b1 b2 b3 b4 b5 b6 b7 b8 b9 b10
              obtain ⟨kv9, w9, hrun, hown9, hg9⟩ := HT13.out.run h32 ⟨next t.e now, t.A, t.c⟩
              have HO9 := Lib.hid hown9
              have HG9 := Lib.hid hg9
              unfold Xe.arr at hrun
              (try simp only [next] at hrun)
              clear hown9 hg9
              go_wp2_with (at_builtin; refine wpList_append_eq rfl _ _ 28 rfl _ _ rfl rfl kv9 w9 hrun ?_)
              exact ⟨⟨k + 1, by rw [Hn2.out], by simp, by omega, HT13.out.app Ht.out Hkx.out HO9.out HG9.out⟩, by simp [intOf]; omega⟩
          · have q2 : decide (2 ≤ a) = false := decide_eq_false h2
            have hgf : goes t.e now = false := by rw [Hgo.out, q2]; simp
            have haf : again t.e now = false := by rw [Hag.out, q2]; simp
            have Hkx : Hid (keepX now t = some t) := Lib.hid (by unfold keepX; rw [if_neg (by rw [hgf]; simp), if_neg (by rw [haf]; simp)])
            have Hn2 : Hid (tickN ((P.map Xe.e).take (k + 1)) now = N) := Lib.hid (by rw [Hnx.out, if_neg (by rw [hgf]; simp), Nat.add_zero])
            have Hkn := Lib.hid hkn
            have Haf := Lib.hid haf
            clear hkn h2 hgf haf
            go_upto_region 11 with (go_at_call 34; (with_reducible refine (XA.out _).mono ?_); rintro e w8 ⟨rfl, h1⟩; (have HA_w8 := Lib.hid h1); clear h1)
            have HT8 := Lib.hid (HT7.out.below HA_w8.out)
            have HX8 := Lib.hid (HX7.out.below HA_w8.out)
            clear b0 b1 b2 b3 b4 b5 b6 b7 b8 b9 b10 HT7 HX7 hM7 HA_w8
            obtain ⟨b0, b1, b2, b3, b4, b5, b6, b7, b8, b9, b10⟩ := HX8.out.flat
            rw [Hkn.out] at b1
            go_upto_region 15 with (go_at_call 34; (with_reducible refine (XA.out _).mono ?_); rintro e w10 ⟨rfl, h1⟩; (have HA_w10 := Lib.hid h1); clear h1)
            have HT10 := Lib.hid ((HT8.out.below HA_w10.out).noask Ht.out Haf.out)
            have HX10 := Lib.hid (HX8.out.below HA_w10.out)
            clear b0 b1 b2 b3 b4 b5 b6 b7 b8 b9 b10 HT8 HX8 HA_w10 XA
            obtain ⟨b0, b1, b2, b3, b4, b5, b6, b7, b8, b9, b10⟩ := HX10.out.flat
            obtain ⟨kv9, w9, hrun, hown9, hg9⟩ := HT10.out.run h32 t
            have HO9 := Lib.hid hown9
            have HG9 := Lib.hid hg9
            unfold Xe.arr at hrun
            (try simp only [next] at hrun)
            clear hown9 hg9
            go_wp2_with (at_builtin; refine wpList_append_eq rfl _ _ 28 rfl _ _ rfl rfl kv9 w9 hrun ?_)
            exact ⟨⟨k + 1, by rw [Hn2.out], by simp, by omega, HT10.out.app Ht.out Hkx.out HO9.out HG9.out⟩, by simp [intOf]; omega⟩
    · have q1 : decide ((k : Int) < (P.length : Int)) = false := decide_eq_false (by omega)
      obtain rfl : k = P.length := by omega
      have HD := Lib.hid (HT.out.done HH.out HN.out)
      have hNe : tickN ((P.map Xe.e).take P.length) now = tickN (P.map Xe.e) now := by rw [← List.length_map (f := Xe.e), List.take_length]
      rw [hNe]
      have hfz := HR.out.thaw
      obtain ⟨Ak, ck, rfl, _⟩ := owns_shape HT.out.kept
      clear hNe
      go_wp2_with fail
      go_ret2
      obtain ⟨h1, h2, h3, h4⟩ := HD.out
      exact ⟨_, _, _, _, rfl, h1, h2, h3, h4⟩
end Go.Proofs.Ytfeipeninmclkaa
