/-
  What is proved: (*cache.Cache).Tick by contract.
  Conditions: the time fits its type.
-/
import Derived.Test.YtfeipeninmclkaaCaWait
namespace Go.Proofs.Ytfeipeninmclkaa
open Go.RowKit

/-- The entries while a Tick goes through them. -/
def mid (L : List En) (now : Int) (k : Nat) : List En := tickL (L.take k) now ++ L.drop k
theorem mid_0 (L : List En) (now : Int) : mid L now 0 = L := by simp [mid, tickL]
theorem mid_end (L : List En) (now : Int) : mid L now L.length = tickL L now := by simp [mid]
theorem mid_at {L : List En} {k : Nat} {e : En} (now : Int) (h : L[k]? = some e) : mid L now k = tickL (L.take k) now ++ e :: L.drop (k + 1) := by
  obtain ⟨hk, he⟩ := List.getElem?_eq_some_iff.1 h
  unfold mid
  rw [List.drop_eq_getElem_cons hk, he]
theorem mid_next {L : List En} {k : Nat} {e : En} (now : Int) (h : L[k]? = some e) : mid L now (k + 1) = tickL (L.take k) now ++ (tick1 now e).toList ++ L.drop (k + 1) := by
  unfold mid
  rw [List.take_add_one, h]
  show tickL (L.take k ++ [e]) now ++ _ = _
  rw [tickL_snoc]
theorem tickA_next {L : List En} {k : Nat} {e : En} (now : Int) (h : L[k]? = some e) : tickA (L.take (k + 1)) now = tickA (L.take k) now ++ (if again e now then [e.ip] else []) := by
  rw [List.take_add_one, h]
  exact tickA_snoc _ _ _
theorem tickN_next {L : List En} {k : Nat} {e : En} (now : Int) (h : L[k]? = some e) : tickN (L.take (k + 1)) now = tickN (L.take k) now + (if goes e now then e.pk.length else 0) := by
  rw [List.take_add_one, h]
  exact tickN_snoc _ _ _
theorem tickA_len (L : List En) (now : Int) (k : Nat) : (tickA (L.take k) now).length ≤ k := by
  unfold tickA
  rw [List.length_map]
  exact Nat.le_trans (List.length_filter_le _ _) (by rw [List.length_take]; omega)
theorem sum_le4 : ∀ l : List En, (∀ e ∈ l, e.pk.length ≤ 4) → (l.map (·.pk.length)).sum ≤ 4 * l.length
  | [], _ => by simp
  | e :: l, h => by
    have h1 := h e (by simp)
    have h2 := sum_le4 l (fun x hx => h x (by simp [hx]))
    simp only [List.map_cons, List.sum_cons, List.length_cons]
    omega
theorem tickN_le {L : List En} (h : ∀ e ∈ L, e.Ok) (now : Int) (k : Nat) : tickN (L.take k) now ≤ 4 * L.length := by
  unfold tickN
  have h1 := sum_le4 ((L.take k).filter (fun e => goes e now)) (fun e he => (h e (List.mem_of_mem_take (List.mem_filter.1 he).1)).few)
  have h2 := List.length_filter_le (fun e => goes e now) (L.take k)
  rw [List.length_take] at h2
  omega
theorem next_ok {e : En} (h : e.Ok) {now : Int} (hn : U64 now) (ha : again e now = true) : (next e now).Ok := by
  unfold again at ha
  simp only [Bool.and_eq_true, Bool.not_eq_true', decide_eq_false_iff_not] at ha
  have h0 := h.tr0
  exact ⟨h.ip, hn, (show (0 : Int) ≤ e.tr + 1 by omega), (show e.tr + 1 ≤ 3 by omega), h.few, h.kn, h.ne⟩
theorem raw_slice (e : En) (q : Nat × Nat) : ∃ SA SC, slv (e.raw q).sl = .slice SA e.pk.length SC := by
  unfold En.raw
  by_cases h : e.pk = []
  · exact ⟨none, 0, by simp [h, slv]⟩
  · exact ⟨some ⟨q.1, 0, none⟩, q.2, by simp [h, slv]⟩
theorem not_again {e : En} {now : Int} (h : goes e now = true) : again e now = false := by
  unfold goes at h
  unfold again
  cases hd : due e now
  · rfl
  · cases ho : old e now
    · rw [ho, hd] at h
      simp at h
      simp [h]
    · unfold old at ho
      unfold due at hd
      simp only [Bool.and_eq_true, Bool.not_eq_true'] at ho hd
      rw [ho.1] at hd
      cases hd.1
/-- While a Tick goes on. -/
structure Tk (w1 : World) (p b : Nat) (F : Nat → Prop) (L : List En) (now : Int) (k : Nat) (dv : Value) (wr : World) : Prop where
  tab : ∃ rep, Tab wr p b F rep none (mid L now k)
  row : wr.ownsRow w1.heap.size 32 1 dv (tickA (L.take k) now).length ((tickA (L.take k) now).map (Value.int .u32))
  go : w1.grownBy wr (some b)
/-- A slice of one's own of addresses. -/
def TickAt (L : List En) (now : Int) (p : Nat) (F : Nat → Prop) (w : World) (e : Ending) (w' : World) : Prop :=
  ∃ dv, e = .returned (.tuple #[dv, .int .i64 (tickN L now : Nat)]) ∧ w'.ownsRow w.heap.size 32 1 dv (tickA L now).length ((tickA L now).map (Value.int .u32)) ∧ Ca w' p F (tickL L now) ∧ Did w w' F F
theorem owns_base {w : World} {B B' : Nat} {e : TypeId} {s : Nat} {v : Value} {k : Nat} {xs : List Value} (h : w.ownsRow B e s v k xs) (hb : B' ≤ B) : w.ownsRow B' e s v k xs := by
  refine ⟨h.1, ?_⟩
  rcases h.2 with h1 | ⟨g, cap, cur, hv, h2, r⟩
  · exact .inl h1
  · exact .inr ⟨g, cap, cur, hv, Nat.le_trans hb h2, r⟩
theorem owns_turned {w w' : World} {b B : Nat} {e : TypeId} {s : Nat} {v : Value} {k : Nat} {xs : List Value} (h : w.ownsRow B e s v k xs) (ht : w.mapTurned w' b) : w'.ownsRow B e s v k xs := by
  refine ⟨h.1, ?_⟩
  rcases h.2 with h1 | ⟨g, cap, cur, hv, h2, hg, r⟩
  · exact .inl h1
  · refine .inr ⟨g, cap, cur, hv, h2, ?_, r⟩
    rw [ht.grown.block g (Array.getElem?_eq_some_iff.1 hg).1 (fun e => ?_)]
    · exact hg
    · cases e
      obtain ⟨es, clock, es', clock', hb, _⟩ := ht
      rw [hb] at hg
      cases hg
theorem gb_below {a b c : World} {r : Option Nat} (h : a.grownBy b r) (k : Below b.heap.size b c) : a.grownBy c r :=
  h.andThen ⟨k.os, k.tape, k.output, k.size, fun i hi _ => k.block i hi⟩ (fun _ e => .inr e)

set_option maxRecDepth 100000 in
set_option maxHeartbeats 8000000 in
theorem tick_any (L : List En) (now : Int) (hn : U64 now) (p b : Nat) (F : Nat → Prop) (rep : Rep) (w : World) (h : Tab w p b F rep none L) :
    Calls Try.prog 16 #[.pointer (some ⟨p, 0, none⟩), .int .u64 now] w (TickAt L now p F w) := by
  have HTa := Lib.hid h
  have X := Lib.hid (rising_any L p b F rep none w h)
  have h32 := h.few
  have HN := Lib.hid hn
  clear h hn
  obtain ⟨i0, hi, hz0, hz1, hz2⟩ := info_parts ip_info
  have HInfo := Lib.hid (And.intro hi (And.intro hz0 (And.intro hz1 hz2)))
  clear hi hz0 hz1 hz2
  go_enter Try.func16, Try.ntmps16
  go_wp2_with (go_at_call 31; (with_reducible refine X.out.mono ?_); rintro e w1 ⟨A, c, rfl, hc1, hc2, hI, hB⟩; (have HI := Lib.hid hI); (have HB := Lib.hid hB); clear hI hB)
  have hbw : Hid (b < w.heap.size) := Lib.hid HTa.out.lt.2
  go_loopw [6, 7, 14] (fun s6 s7 s14 wr => ∃ (k : Nat) (m : Nat), s7 = .int .i64 (m : Int) ∧ m = tickN (L.take k) now ∧ s14 = .int .i64 k ∧ k ≤ L.length ∧ Tk w1 p b F L now k s6 wr) (fun _ _ s14 _ => L.length - (numOf s14).toNat)
  case atStart =>
    exact ⟨0, 0, rfl, rfl, rfl, Nat.zero_le _, ⟨rep, by rw [mid_0]; exact HTa.out.below HB.out⟩, World.ownsRow_nil _ _ _ _, gb_refl _ _⟩
  case round =>
    obtain ⟨k, m, rfl, hm, rfl, hk, hTk⟩ := hrel
    have HTk := Lib.hid hTk
    have Hm := Lib.hid hm
    have hm1 : m ≤ 128 := by have := tickN_le HTa.out.ok now k; omega
    clear hTk hm
    by_cases hlt : k < L.length
    · have q1 : decide ((k : Int) < (L.length : Int)) = true := decide_eq_true (by omega)
      obtain ⟨e, he⟩ : ∃ e, L[k]? = some e := ⟨L[k], List.getElem?_eq_getElem hlt⟩
      have He := Lib.hid he
      obtain ⟨g, rfl, hgB, hci⟩ := HI.out k e.ip (by simp [he])
      have hci := (show wr.cell? ⟨g, k, none⟩ = some (.int .u32 e.ip) by
        rw [← hci]
        unfold World.cell?
        rw [HTk.out.go.block g (World.block_lt_of_cell? w1 _ hci) (fun e => by have := hbw.out; cases e; omega)])
      obtain ⟨rep', hT⟩ := HTk.out.tab
      have HT := Lib.hid hT
      have hem : e ∈ mid L now k := by rw [mid_at now he]; simp
      have hl := hT.asked (hT.ok e hem).ip false
      have hp := hT.cell
      have hgot : got (mid L now k) rep' e.ip = e.raw (rep' e.ip) := by
        unfold got
        rw [look_mem hT.srt hem rfl]
      rw [hgot] at hl
      simp only [Bool.false_eq_true, if_false] at hl
      have Hok := Lib.hid (hT.ok e hem)
      have HM := Lib.hid hem
      obtain ⟨SA, SC, hsl⟩ := raw_slice e (rep' e.ip)
      obtain ⟨r, hr⟩ : ∃ r, e.raw (rep' e.ip) = r := ⟨_, rfl⟩
      rw [hr] at hl hsl
      have Hr := Lib.hid hr
      have X1 := Lib.hid (fun W => tooOld_any r now (by rw [← hr]; exact Hok.out.t) HN.out W)
      have X2 := Lib.hid (fun W => isDue_any r now (by rw [← hr]; exact Hok.out.t) HN.out W)
      have e1 : rold r now = old e now := by rw [← hr]; rfl
      have e2 : rdue r now = due e now := by rw [← hr]; rfl
      rw [e1] at X1
      rw [e2] at X2
      obtain ⟨o, ho⟩ : ∃ o, old e now = o := ⟨_, rfl⟩
      obtain ⟨d, hd⟩ : ∃ d, due e now = d := ⟨_, rfl⟩
      rw [ho] at X1
      rw [hd] at X2
      have Ho := Lib.hid ho
      have Hd := Lib.hid hd
      have htr : r.tr = e.tr := by rw [← hr]; rfl
      have htr0 := Hok.out.tr0
      have htr1 := Hok.out.tr1
      have hN4 := Hok.out.few
      rw [← htr] at htr0 htr1
      have Htr := Lib.hid htr
      obtain ⟨N, hNe⟩ : ∃ N, e.pk.length = N := ⟨_, rfl⟩
      rw [hNe] at hsl hN4
      have HNe := Lib.hid hNe
      obtain ⟨ip, hip⟩ : ∃ ip, e.ip = ip := ⟨_, rfl⟩
      rw [hip] at hl hci
      have Hip := Lib.hid hip
      clear hr he hem hgot hT e1 e2 ho hd htr hNe hip
      have HB6 := Lib.hid ((Below.refl _ wr).alloc (Nat.le_refl _) r.obj)
      have HA6 := Lib.hid (heap_alloc_new wr r.obj)
      obtain ⟨kn, ⟨a1, a2, a3, a4, a5, a6⟩, t, tr, sl⟩ := r
      unfold Raw.obj at HB6 HA6
      unfold Raw.val at hl X1 X2
      simp only at HB6 HA6 hl hsl htr0 htr1 Htr X1 X2
      rw [hsl] at HB6 HA6 hl X1 X2
      have Hsl := Lib.hid hsl
      clear hsl
      go_upto_region 7 with (refine wpList_store_row rfl 71 (.tmp 10) (.tmp 23) rfl wr.heap.size #[.bool kn, .int .u8 a1, .int .u8 a2, .int .u8 a3, .int .u8 a4, .int .u8 a5, .int .u8 a6, .int .u64 t, .int .i64 tr, .slice SA N SC] rfl rfl 71 _ (heap_alloc_new wr _) enSize rfl (enRow_one _ _ _ _ _ _ _ _ _ _ rfl) ?_; rw [setRow_alloc])
      try simp only [Act.put]
      generalize wr.alloc (.cells #[.bool kn, .int .u8 a1, .int .u8 a2, .int .u8 a3, .int .u8 a4, .int .u8 a5, .int .u8 a6, .int .u64 t, .int .i64 tr, .slice SA N SC] 71) = w6 at HB6 HA6 ⊢
      obtain ⟨G, hG⟩ : ∃ G, wr.heap.size = G := ⟨_, rfl⟩
      rw [hG] at HA6 ⊢
      have HG := Lib.hid hG
      clear hl hp hci hG
      have c0 : w6.cell? ⟨G, 0, none⟩ = some (.bool kn) := by simp [World.cell?, HA6.out]
      have c1 : w6.cell? ⟨G, 1, none⟩ = some (.int .u8 a1) := by simp [World.cell?, HA6.out]
      have c2 : w6.cell? ⟨G, 2, none⟩ = some (.int .u8 a2) := by simp [World.cell?, HA6.out]
      have c3 : w6.cell? ⟨G, 3, none⟩ = some (.int .u8 a3) := by simp [World.cell?, HA6.out]
      have c4 : w6.cell? ⟨G, 4, none⟩ = some (.int .u8 a4) := by simp [World.cell?, HA6.out]
      have c5 : w6.cell? ⟨G, 5, none⟩ = some (.int .u8 a5) := by simp [World.cell?, HA6.out]
      have c6 : w6.cell? ⟨G, 6, none⟩ = some (.int .u8 a6) := by simp [World.cell?, HA6.out]
      have c7 : w6.cell? ⟨G, 7, none⟩ = some (.int .u64 t) := by simp [World.cell?, HA6.out]
      have c8 : w6.cell? ⟨G, 8, none⟩ = some (.int .i64 tr) := by simp [World.cell?, HA6.out]
      have c9 : w6.cell? ⟨G, 9, none⟩ = some (.slice SA N SC) := by simp [World.cell?, HA6.out]
      go_upto_if 24 with (go_at_call 32; (with_reducible refine (X1.out _).mono ?_); rintro e7 w7 ⟨rfl, h7⟩; (have H7 := Lib.hid h7); clear h7)
      have d0 := (H7.out.cell (World.block_lt_of_cell? w6 _ c0)).trans c0
      have d1 := (H7.out.cell (World.block_lt_of_cell? w6 _ c1)).trans c1
      have d2 := (H7.out.cell (World.block_lt_of_cell? w6 _ c2)).trans c2
      have d3 := (H7.out.cell (World.block_lt_of_cell? w6 _ c3)).trans c3
      have d4 := (H7.out.cell (World.block_lt_of_cell? w6 _ c4)).trans c4
      have d5 := (H7.out.cell (World.block_lt_of_cell? w6 _ c5)).trans c5
      have d6 := (H7.out.cell (World.block_lt_of_cell? w6 _ c6)).trans c6
      have d7 := (H7.out.cell (World.block_lt_of_cell? w6 _ c7)).trans c7
      have d8 := (H7.out.cell (World.block_lt_of_cell? w6 _ c8)).trans c8
      have d9 := (H7.out.cell (World.block_lt_of_cell? w6 _ c9)).trans c9
      clear c0 c1 c2 c3 c4 c5 c6 c7 c8 c9 X1
      have HB7 := Lib.hid (below_to HB6.out H7.out HB6.out.size)
      have HA7 := Lib.hid ((H7.out.block G (Array.getElem?_eq_some_iff.1 HA6.out).1).trans HA6.out)
      clear HB6 HA6 H7
      cases o with
      | true =>
        have hg : goes e now = true := by unfold goes; rw [Ho.out]; rfl
        have Hg := Lib.hid hg
        clear hg
        have HT7 := Lib.hid (HT.out.below HB7.out)
        obtain ⟨w9, hr9, hT9, hm9⟩ := HT7.out.drop (k := ip) (by rw [← Hip.out]; exact Hok.out.ip) 0
        have HT9 := Lib.hid hT9
        have HM9 := Lib.hid hm9
        have hp := HT7.out.cell
        clear hT9 hm9
        go_wp2_with fail
        go_roundw
        case rel =>
          refine ⟨k + 1, m + N, by go_num, ?_, by go_num, by omega, ⟨rep', ?_⟩, ?_, gb_trans (gb_below HTk.out.go HB7.out) HM9.out.grown⟩
          · rw [tickN_next now He.out, Hg.out, ← Hm.out, ← HNe.out]
            rfl
          · have h := HT9.out
            have hs := HT.out.srt
            rw [mid_at now He.out] at h hs
            rw [← Hip.out, del_mid hs] at h
            rw [mid_next now He.out]
            unfold tick1
            rw [Hg.out]
            simpa using h
          · rw [tickA_next now He.out]
            have ha : again e now = false := not_again Hg.out
            rw [ha]
            simp only [Bool.false_eq_true, if_false, List.append_nil]
            exact owns_turned (owns_at HTk.out.row (fun g hg => HB7.out.block g (HTk.out.row.lt g hg).2)) HM9.out
        case measure => simp [numOf]; omega
      | false =>
        cases d with
        | false =>
          go_upto_region 8 with fail
          go_upto_if 24 with (go_at_call 33; (with_reducible refine (X2.out _).mono ?_); rintro e8 w8 ⟨rfl, h8⟩; (have H8 := Lib.hid h8); (have f8 := (h8.cell (World.block_lt_of_cell? w7 _ d8)).trans d8); clear h8)
          have g0 := (H8.out.cell (World.block_lt_of_cell? w7 _ d0)).trans d0
          have g1 := (H8.out.cell (World.block_lt_of_cell? w7 _ d1)).trans d1
          have g2 := (H8.out.cell (World.block_lt_of_cell? w7 _ d2)).trans d2
          have g3 := (H8.out.cell (World.block_lt_of_cell? w7 _ d3)).trans d3
          have g4 := (H8.out.cell (World.block_lt_of_cell? w7 _ d4)).trans d4
          have g5 := (H8.out.cell (World.block_lt_of_cell? w7 _ d5)).trans d5
          have g6 := (H8.out.cell (World.block_lt_of_cell? w7 _ d6)).trans d6
          have g7 := (H8.out.cell (World.block_lt_of_cell? w7 _ d7)).trans d7
          have g8 := (H8.out.cell (World.block_lt_of_cell? w7 _ d8)).trans d8
          have g9 := (H8.out.cell (World.block_lt_of_cell? w7 _ d9)).trans d9
          clear d0 d1 d2 d3 d4 d5 d6 d7 d8 d9 f8
          have HB8 := Lib.hid (below_to HB7.out H8.out HB7.out.size)
          clear HB7 HA7 H8
          go_wp2_with (go_at_call 33; (with_reducible refine (X2.out _).mono ?_); rintro e9 w9 ⟨rfl, h9⟩; (have H9 := Lib.hid h9); clear h9)
          go_roundw
          case rel =>
            have HB9 := Lib.hid (below_to HB8.out H9.out HB8.out.size)
            have hg : goes e now = false := by unfold goes; rw [Ho.out, Hd.out]; rfl
            have ha : again e now = false := by unfold again; rw [Hd.out]; rfl
            refine ⟨k + 1, m, by go_num, ?_, by go_num, by omega, ⟨rep', ?_⟩, ?_, gb_below HTk.out.go HB9.out⟩
            · rw [tickN_next now He.out, hg, ← Hm.out]
              simp
            · have h := HT.out.below HB9.out
              rw [mid_at now He.out] at h
              rw [mid_next now He.out]
              unfold tick1
              rw [hg, ha]
              simpa using h
            · rw [tickA_next now He.out, ha]
              simp only [Bool.false_eq_true, if_false, List.append_nil]
              exact owns_at HTk.out.row (fun g hg => HB9.out.block g (HTk.out.row.lt g hg).2)
          case measure => simp [numOf]; omega
        | true =>
          by_cases h3 : 3 ≤ tr
          · have q3 : decide (3 ≤ tr) = true := decide_eq_true h3
            have H3 := Lib.hid h3
            clear h3
            go_upto_region 8 with fail
            go_upto_if 24 with (go_at_call 33; (with_reducible refine (X2.out _).mono ?_); rintro e8 w8 ⟨rfl, h8⟩; (have H8 := Lib.hid h8); (have f8 := (h8.cell (World.block_lt_of_cell? w7 _ d8)).trans d8); clear h8)
            have g0 := (H8.out.cell (World.block_lt_of_cell? w7 _ d0)).trans d0
            have g1 := (H8.out.cell (World.block_lt_of_cell? w7 _ d1)).trans d1
            have g2 := (H8.out.cell (World.block_lt_of_cell? w7 _ d2)).trans d2
            have g3 := (H8.out.cell (World.block_lt_of_cell? w7 _ d3)).trans d3
            have g4 := (H8.out.cell (World.block_lt_of_cell? w7 _ d4)).trans d4
            have g5 := (H8.out.cell (World.block_lt_of_cell? w7 _ d5)).trans d5
            have g6 := (H8.out.cell (World.block_lt_of_cell? w7 _ d6)).trans d6
            have g7 := (H8.out.cell (World.block_lt_of_cell? w7 _ d7)).trans d7
            have g8 := (H8.out.cell (World.block_lt_of_cell? w7 _ d8)).trans d8
            have g9 := (H8.out.cell (World.block_lt_of_cell? w7 _ d9)).trans d9
            clear d0 d1 d2 d3 d4 d5 d6 d7 d8 d9 f8
            have HB8 := Lib.hid (below_to HB7.out H8.out HB7.out.size)
            clear HB7 HA7 H8
            have HB7 := HB8
            clear HB8

            have hg : goes e now = true := by unfold goes; rw [Ho.out, Hd.out]; simp [Htr.out.symm, H3.out]
            have Hg := Lib.hid hg
            clear hg
            have HT7 := Lib.hid (HT.out.below HB7.out)
            obtain ⟨w9, hr9, hT9, hm9⟩ := HT7.out.drop (k := ip) (by rw [← Hip.out]; exact Hok.out.ip) 0
            have HT9 := Lib.hid hT9
            have HM9 := Lib.hid hm9
            have hp := HT7.out.cell
            clear hT9 hm9
            go_wp2_with fail
            go_roundw
            case rel =>
              refine ⟨k + 1, m + N, by go_num, ?_, by go_num, by omega, ⟨rep', ?_⟩, ?_, gb_trans (gb_below HTk.out.go HB7.out) HM9.out.grown⟩
              · rw [tickN_next now He.out, Hg.out, ← Hm.out, ← HNe.out]
                rfl
              · have h := HT9.out
                have hs := HT.out.srt
                rw [mid_at now He.out] at h hs
                rw [← Hip.out, del_mid hs] at h
                rw [mid_next now He.out]
                unfold tick1
                rw [Hg.out]
                simpa using h
              · rw [tickA_next now He.out]
                have ha : again e now = false := not_again Hg.out
                rw [ha]
                simp only [Bool.false_eq_true, if_false, List.append_nil]
                exact owns_turned (owns_at HTk.out.row (fun g hg => HB7.out.block g (HTk.out.row.lt g hg).2)) HM9.out
            case measure => simp [numOf]; omega
          · have q3 : decide (3 ≤ tr) = false := decide_eq_false h3
            have H3 := Lib.hid h3
            clear h3
            go_upto_region 8 with fail
            go_upto_if 24 with (go_at_call 33; (with_reducible refine (X2.out _).mono ?_); rintro e8 w8 ⟨rfl, h8⟩; (have H8 := Lib.hid h8); (have f8 := (h8.cell (World.block_lt_of_cell? w7 _ d8)).trans d8); clear h8)
            have g0 := (H8.out.cell (World.block_lt_of_cell? w7 _ d0)).trans d0
            have g1 := (H8.out.cell (World.block_lt_of_cell? w7 _ d1)).trans d1
            have g2 := (H8.out.cell (World.block_lt_of_cell? w7 _ d2)).trans d2
            have g3 := (H8.out.cell (World.block_lt_of_cell? w7 _ d3)).trans d3
            have g4 := (H8.out.cell (World.block_lt_of_cell? w7 _ d4)).trans d4
            have g5 := (H8.out.cell (World.block_lt_of_cell? w7 _ d5)).trans d5
            have g6 := (H8.out.cell (World.block_lt_of_cell? w7 _ d6)).trans d6
            have g7 := (H8.out.cell (World.block_lt_of_cell? w7 _ d7)).trans d7
            have g8 := (H8.out.cell (World.block_lt_of_cell? w7 _ d8)).trans d8
            have g9 := (H8.out.cell (World.block_lt_of_cell? w7 _ d9)).trans d9
            have HB8 := Lib.hid (below_to HB7.out H8.out HB7.out.size)
            have HA8 := Lib.hid ((H8.out.block G (Array.getElem?_eq_some_iff.1 HA7.out).1).trans HA7.out)
            clear d0 d1 d2 d3 d4 d5 d6 d7 d8 d9 f8 HB7 HA7 H8
            go_upto_if 46 with (go_at_call 33; (with_reducible refine (X2.out _).mono ?_); rintro e9 w9 ⟨rfl, h9⟩; (have H9 := Lib.hid h9); clear h9)
            have u0 := (H9.out.cell (World.block_lt_of_cell? w8 _ g0)).trans g0
            have u1 := (H9.out.cell (World.block_lt_of_cell? w8 _ g1)).trans g1
            have u2 := (H9.out.cell (World.block_lt_of_cell? w8 _ g2)).trans g2
            have u3 := (H9.out.cell (World.block_lt_of_cell? w8 _ g3)).trans g3
            have u4 := (H9.out.cell (World.block_lt_of_cell? w8 _ g4)).trans g4
            have u5 := (H9.out.cell (World.block_lt_of_cell? w8 _ g5)).trans g5
            have u6 := (H9.out.cell (World.block_lt_of_cell? w8 _ g6)).trans g6
            have u7 := (H9.out.cell (World.block_lt_of_cell? w8 _ g7)).trans g7
            have u8 := (H9.out.cell (World.block_lt_of_cell? w8 _ g8)).trans g8
            have u9 := (H9.out.cell (World.block_lt_of_cell? w8 _ g9)).trans g9
            have HB9 := Lib.hid (below_to HB8.out H9.out HB8.out.size)
            have HA9 := Lib.hid ((H9.out.block G (Array.getElem?_eq_some_iff.1 HA8.out).1).trans HA8.out)
            clear g0 g1 g2 g3 g4 g5 g6 g7 g8 g9 HB8 HA8 H9 X2
            have z7 : w9.frozen? ⟨G, 7, none⟩ = false := by simp [World.frozen?, HA9.out]
            have z8 : w9.frozen? ⟨G, 8, none⟩ = false := by simp [World.frozen?, HA9.out]
            have hGw : wr.heap.size ≤ G := by have := HG.out; omega
            have hGl : G < w9.heap.size := (Array.getElem?_eq_some_iff.1 HA9.out).1
            go_upto_region 13 with fail
            obtain ⟨w10, hw10⟩ : ∃ w10, (w9.setCell ⟨G, 7, none⟩ (.int .u64 now)).setCell ⟨G, 8, none⟩ (.int .i64 (tr + 1)) = w10 := ⟨_, rfl⟩
            have ot : ∀ i v, i ≠ 7 → i ≠ 8 → w9.cell? ⟨G, i, none⟩ = some v → w10.cell? ⟨G, i, none⟩ = some v := fun i v h7 h8 h => by
              rw [← hw10, World.cell?_setCell_other _ _ _ _ (fun e => h8 (by simpa using e.symm)), World.cell?_setCell_other _ _ _ _ (fun e => h7 (by simpa using e.symm))]
              exact h
            have x0 := ot 0 _ (by decide) (by decide) u0
            have x1 := ot 1 _ (by decide) (by decide) u1
            have x2 := ot 2 _ (by decide) (by decide) u2
            have x3 := ot 3 _ (by decide) (by decide) u3
            have x4 := ot 4 _ (by decide) (by decide) u4
            have x5 := ot 5 _ (by decide) (by decide) u5
            have x6 := ot 6 _ (by decide) (by decide) u6
            have x9 := ot 9 _ (by decide) (by decide) u9
            have x7 : w10.cell? ⟨G, 7, none⟩ = some (.int .u64 now) := by
              rw [← hw10, World.cell?_setCell_other _ _ _ _ (fun e => by simp at e)]
              exact set_same u7 _
            have x8 : w10.cell? ⟨G, 8, none⟩ = some (.int .i64 (tr + 1)) := by
              rw [← hw10]
              refine set_same (u := .int .i64 tr) ?_ _
              rw [World.cell?_setCell_other _ _ _ _ (fun e => by simp at e)]
              exact u8
            have HB10 : Hid (Below wr.heap.size wr w10) := Lib.hid (by rw [← hw10]; exact (HB9.out.setCell (by exact hGw) _).setCell (by exact hGw) _)
            have HT10 := Lib.hid (HT.out.below HB10.out)
            have hag : again e now = true := by unfold again; rw [Hd.out]; simp [Htr.out.symm]; have := H3.out; omega
            have HAg := Lib.hid hag
            have hmem : next e now ∈ putL (mid L now k) (next e now) := (mem_put HT.out.srt _ _).2 (.inl rfl)
            have hlen : (putL (mid L now k) (next e now)).length ≤ 32 := by
              rw [length_put HT.out.srt, show (next e now).ip = e.ip from rfl, look_mem HT.out.srt HM.out rfl]
              exact HT.out.few
            have hraw : (next e now).raw (rep' e.ip) = ⟨kn, ⟨a1, a2, a3, a4, a5, a6⟩, now, tr + 1, sl⟩ := by
              have h := Hr.out
              unfold En.raw at h ⊢
              simp only [Raw.mk.injEq] at h
              obtain ⟨h1, h2, h3, h4, h5⟩ := h
              simp only [next, Raw.mk.injEq]
              exact ⟨h1, h2, trivial, by rw [h4], h5⟩
            obtain ⟨w11, hr11, hT11, hm11⟩ := (HT10.out.drewN 1).store (e := next e now) (.inl rfl) (next_ok Hok.out HN.out hag) hlen (rep' e.ip) (fun hne => by
                obtain ⟨vs, hv⟩ := HT10.out.rows e HM.out (by simp) hne
                exact ⟨vs, hv.at (fun _ _ => rfl)⟩) (fun hne f hf hfe hfn heq => hfe (HT.out.apart f hf e HM.out hfn hne heq))
            rw [hraw, show (next e now).ip = ip from Hip.out] at hr11
            unfold Raw.val at hr11
            simp only at hr11
            rw [Hsl.out] at hr11
            change Sem.run _ _ (World.drew w10) = _ at hr11
            have HT11 := Lib.hid hT11
            have HM11 := Lib.hid hm11
            have hp := HT10.out.cell
            have KS : Hid (∀ W', Below w10.heap.size w10 W' → (fun W' => W'.cell? ⟨p, 0, none⟩ = some (.map (some b)) ∧ W'.cell? ⟨G, 0, none⟩ = some (.bool kn) ∧ W'.cell? ⟨G, 1, none⟩ = some (.int .u8 a1) ∧ W'.cell? ⟨G, 2, none⟩ = some (.int .u8 a2) ∧ W'.cell? ⟨G, 3, none⟩ = some (.int .u8 a3) ∧ W'.cell? ⟨G, 4, none⟩ = some (.int .u8 a4) ∧ W'.cell? ⟨G, 5, none⟩ = some (.int .u8 a5) ∧ W'.cell? ⟨G, 6, none⟩ = some (.int .u8 a6) ∧ W'.cell? ⟨G, 7, none⟩ = some (.int .u64 now) ∧ W'.cell? ⟨G, 8, none⟩ = some (.int .i64 (tr + 1)) ∧ W'.cell? ⟨G, 9, none⟩ = some (.slice SA N SC)) W') := Lib.hid (fun W' hW => by
              have hc : ∀ {a : Addr} {v : Value}, w10.cell? a = some v → W'.cell? a = some v := fun hi => (hW.cell (World.block_lt_of_cell? w10 _ hi)).trans hi
              exact ⟨hc hp, hc x0, hc x1, hc x2, hc x3, hc x4, hc x5, hc x6, hc x7, hc x8, hc x9⟩)
            have KT : Hid ((fun W' => W'.cell? ⟨p, 0, none⟩ = some (.map (some b)) ∧ W'.cell? ⟨G, 0, none⟩ = some (.bool kn) ∧ W'.cell? ⟨G, 1, none⟩ = some (.int .u8 a1) ∧ W'.cell? ⟨G, 2, none⟩ = some (.int .u8 a2) ∧ W'.cell? ⟨G, 3, none⟩ = some (.int .u8 a3) ∧ W'.cell? ⟨G, 4, none⟩ = some (.int .u8 a4) ∧ W'.cell? ⟨G, 5, none⟩ = some (.int .u8 a5) ∧ W'.cell? ⟨G, 6, none⟩ = some (.int .u8 a6) ∧ W'.cell? ⟨G, 7, none⟩ = some (.int .u64 now) ∧ W'.cell? ⟨G, 8, none⟩ = some (.int .i64 (tr + 1)) ∧ W'.cell? ⟨G, 9, none⟩ = some (.slice SA N SC)) w11) := Lib.hid (by
              obtain ⟨q0, q1, q2, q3, q4, q5, q6, q7, q8, q9, q10⟩ := KS.out _ (below_drew w10)
              exact ⟨turned_cell HM11.out q0, turned_cell HM11.out q1, turned_cell HM11.out q2, turned_cell HM11.out q3, turned_cell HM11.out q4, turned_cell HM11.out q5, turned_cell HM11.out q6, turned_cell HM11.out q7, turned_cell HM11.out q8, turned_cell HM11.out q9, turned_cell HM11.out q10⟩)
            rw [hw10]
            clear hw10 ot x0 x1 x2 x3 x4 x5 x6 x7 x8 x9 u0 u1 u2 u3 u4 u5 u6 u7 u8 u9 z7 z8 hag hmem hlen hraw hT11 hm11 hp hGl HA9 HB9
            go_region_held_law (fun W' => W'.cell? ⟨p, 0, none⟩ = some (.map (some b)) ∧ W'.cell? ⟨G, 0, none⟩ = some (.bool kn) ∧ W'.cell? ⟨G, 1, none⟩ = some (.int .u8 a1) ∧ W'.cell? ⟨G, 2, none⟩ = some (.int .u8 a2) ∧ W'.cell? ⟨G, 3, none⟩ = some (.int .u8 a3) ∧ W'.cell? ⟨G, 4, none⟩ = some (.int .u8 a4) ∧ W'.cell? ⟨G, 5, none⟩ = some (.int .u8 a5) ∧ W'.cell? ⟨G, 6, none⟩ = some (.int .u8 a6) ∧ W'.cell? ⟨G, 7, none⟩ = some (.int .u64 now) ∧ W'.cell? ⟨G, 8, none⟩ = some (.int .i64 (tr + 1)) ∧ W'.cell? ⟨G, 9, none⟩ = some (.slice SA N SC))
              (first | assumption | exact KS.out _ (below_drew w10) | exact KT.out)
              (fail)
            all_goals
              clear KS KT
              have hsz : w1.heap.size ≤ w11.heap.size := by
                have h1 := HTk.out.go.size
                have h2 := HB10.out.size
                have h3 := HM11.out.grown.size
                have h4 : w10.heap.size ≤ w11.heap.size := h3
                omega
              have hrow11 : w11.ownsRow w1.heap.size 32 1 u6 (tickA (L.take k) now).length ((tickA (L.take k) now).map (Value.int .u32)) := owns_turned (w := w10.drewN 1) (owns_at (owns_at HTk.out.row (fun g hg => HB10.out.block g (HTk.out.row.lt g hg).2)) (fun _ _ => rfl)) HM11.out
              have hal := tickA_len L now k
              have Hrow := Lib.hid hrow11
              have Hsz := Lib.hid hsz
              obtain ⟨i1, i2, i3, i4⟩ := HInfo.out
              go_wp2_with (at_builtin; refine wpList_append_own _ rfl _ _ 49 rfl w1.heap.size 32 i0 (.int .u32 0) 1 4 Try.underlying49 i1 i2 i3 i4 rfl (by decide) _ _ _ rfl (Hrow.out.alloc _) ⟨w11.heap.size, 0, none⟩ 1 1 [.int .u32 ip] rfl rfl (cells_one w11 ip 32) (by simp [Value.oneCell']) (by unfold maxLen; omega) (by omega) (by have := Hsz.out; simp; omega) ?_; intro v' w12 hown' hgrow hnil'; have HO := Lib.hid hown'; have HGr : Hid ((w11.alloc (.cells #[.int .u32 ip] 32)).grownBy w12 u6.ownBlock) := Lib.hid hgrow; clear hown' hgrow hnil')
              go_roundw
              case rel =>
                have hgo : goes e now = false := by
                  have h := HAg.out
                  unfold again at h
                  unfold goes
                  rw [Ho.out]
                  simp only [Bool.and_eq_true, Bool.not_eq_true'] at h
                  simp [h.2]
                have hdv : ∀ g, u6.ownBlock = some g → w1.heap.size ≤ g := fun g hg => (HTk.out.row.lt g hg).1
                refine ⟨k + 1, m, by go_num, ?_, by go_num, by omega, ⟨Rep.set rep' (next e now).ip (rep' e.ip), ?_⟩, ?_, ?_⟩
                · rw [tickN_next now He.out, hgo, ← Hm.out]
                  simp
                · have h12 : ∀ q, F q → w12.heap[q]? = w11.heap[q]? := fun q hq => by
                    have hql : q < w1.heap.size := Nat.lt_of_lt_of_le (HTa.out.flt q hq) HB.out.size
                    rw [HGr.out.block q (by simp; have := Hsz.out; omega) (fun e => by have := hdv q e.symm; omega)]
                    exact Below.heap_alloc w11 (.cells #[.int .u32 ip] 32) q (by have := Hsz.out; omega)
                  have h := HT11.out.at h12 (by have h1 := HGr.out.size; simp at h1; omega)
                  have hs := HT.out.srt
                  rw [mid_at now He.out] at h hs
                  rw [put_mid (e' := next e now) hs rfl] at h
                  rw [mid_next now He.out]
                  unfold tick1
                  rw [hgo, HAg.out]
                  simpa using h
                · rw [tickA_next now He.out, HAg.out]
                  simp only [if_true, List.length_append, List.map_append, List.length_cons, List.length_nil, List.map_cons, List.map_nil]
                  rw [Hip.out]
                  exact HO.out
                · have h1 := gb_below HTk.out.go HB10.out
                  have h2 := gb_trans (gb_dN h1 1) HM11.out.grown
                  exact (gb_below h2 ((Below.refl _ w11).alloc (Nat.le_refl _) _)).andThen HGr.out (fun j e => .inl (hdv j e))
              case measure => simp [numOf]; omega
    · have q1 : decide ((k : Int) < (L.length : Int)) = false := decide_eq_false (by omega)
      have Hkl : Hid (k = L.length) := Lib.hid (by omega)
      go_wp2_with fail
      go_ret2
      obtain ⟨rep', hT⟩ := HTk.out.tab
      have hT := hT
      have hR := HTk.out.row
      have hm := Hm.out
      rw [Hkl.out, List.take_length] at hm hR
      rw [Hkl.out, mid_end] at hT
      refine ⟨_, by rw [← hm]; rfl, owns_base hR HB.out.size, ⟨b, rep', hT⟩, (Did.of_below HB.out).trans ⟨HTk.out.go.os, HTk.out.go.tape, HTk.out.go.output, HTk.out.go.size, fun k hk hn => HTk.out.go.block k hk (fun e => hn (by cases e; exact HTa.out.fb)), fun _ h => .inl h⟩⟩
end Go.Proofs.Ytfeipeninmclkaa
