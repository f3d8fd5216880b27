/-
  What is proved: the document's room and Find by contract.
  Conditions: the numbers fit their types.
-/
import Derived.Test.YtfeipeninmclkaaRcCut
import Derived.Test.YtfeipeninmclkaaRcAge
namespace Go.Proofs.Ytfeipeninmclkaa
open Go.RowKit

theorem delx_split {P : List Xe} {k : Nat} {x : Xe} (hs : Srt (P.map Xe.e)) (hk : P[k]? = some x) : (P.take k ++ P.drop (k + 1)).map Xe.e = delL (P.map Xe.e) x.e.ip := by
  obtain ⟨h1, h2⟩ := List.getElem?_eq_some_iff.1 hk
  have e : P.map Xe.e = (P.take k).map Xe.e ++ x.e :: (P.drop (k + 1)).map Xe.e := by
    rw [← List.map_cons, ← List.map_append, ← h2, ← List.drop_eq_getElem_cons h1, List.take_append_drop]
  rw [e] at hs
  rw [List.map_append, e, del_mid hs]
/-- The least known of the first k, by its place. -/
def Lst (P : List Xe) (k : Nat) (z : Int) : Prop :=
  (z = -1 ∧ ((P.map Xe.e).take k).foldl lst1 none = none) ∨ ∃ (j : Nat) (x : Xe), z = (j : Int) ∧ P[j]? = some x ∧ ((P.map Xe.e).take k).foldl lst1 none = some x.e
section
variable {P : List Xe} {k : Nat} {z : Int} {t : Xe}
theorem Lst.next (ht : P[k]? = some t) : ((P.map Xe.e).take (k + 1)).foldl lst1 none = lst1 (((P.map Xe.e).take k).foldl lst1 none) t.e :=
  take_foldl (by rw [List.getElem?_map, ht]; rfl)
theorem Lst.unknown (h : Lst P k z) (ht : P[k]? = some t) (hn : t.e.kn = false) : Lst P (k + 1) z := by
  rcases h with ⟨rfl, h⟩ | ⟨j, x, rfl, hj, h⟩
  · refine .inl ⟨rfl, ?_⟩
    rw [Lst.next ht, h]
    unfold lst1
    simp [hn]
  · refine .inr ⟨j, x, rfl, hj, ?_⟩
    rw [Lst.next ht, h]
    unfold lst1
    simp [hn]
theorem Lst.first (h : Lst P k (-1)) (ht : P[k]? = some t) (hn : t.e.kn = true) : Lst P (k + 1) (k : Int) := by
  rcases h with ⟨_, h⟩ | ⟨j, x, e, _⟩
  · refine .inr ⟨k, t, rfl, ht, ?_⟩
    rw [Lst.next ht, h]
    unfold lst1
    simp [hn]
  · omega
end
def RRoomAt (P : List Xe) (p : Nat) (F : Nat → Prop) (w : World) (e : Ending) (w' : World) : Prop :=
  ∃ v' F' P', e = .returned (.bool (room (P.map Xe.e)).isSome) ∧ P'.map Xe.e = (room (P.map Xe.e)).getD (P.map Xe.e) ∧ (∀ y ∈ P', y ∈ P) ∧ ((room (P.map Xe.e)).isSome = true → P'.length < 32) ∧ Rc w' p F' v' P' ∧ Did w w' F F'

set_option maxRecDepth 100000 in
set_option maxHeartbeats 4000000 in
theorem rroom_any (P : List Xe) (p : Nat) (F : Nat → Prop) (v : Value) (w : World) (h : Rc w p F v P) :
    Calls Try.prog 29 #[.pointer (some ⟨p, 0, none⟩)] w (RRoomAt P p F w) := by
  obtain ⟨A, c, rfl, hc1, hc2, _⟩ := h.open
  have HH := Lib.hid h
  have h32 := h.few
  have hp := h.cell
  clear h
  by_cases hf : P.length < 32
  · have hr : Hid (room (P.map Xe.e) = some (P.map Xe.e)) := Lib.hid (by unfold room; rw [if_pos (by rw [List.length_map]; exact hf)])
    have q : decide ((P.length : Int) < 32) = true := decide_eq_true (by omega)
    have Hf := Lib.hid hf
    clear hf
    go_enter Try.func29, Try.ntmps29
    go_wp2_with fail
    go_ret
    exact ⟨_, F, P, by rw [hr.out]; rfl, by rw [hr.out]; rfl, fun _ h => h, fun _ => Hf.out, HH.out, Did.refl _ _⟩
  · have hr : Hid (room (P.map Xe.e) = (lst (P.map Xe.e)).map fun e => delL (P.map Xe.e) e.ip) := Lib.hid (by unfold room; rw [if_neg (by rw [List.length_map]; exact hf)])
    have q : decide ((P.length : Int) < 32) = false := decide_eq_false (by omega)
    have Hf := Lib.hid hf
    clear hf
    go_enter Try.func29, Try.ntmps29
    go_wp2_with fail
    go_loopw [3, 4] (fun s3 s4 wr => ∃ (k : Nat) (z : Int), s3 = .int .i64 z ∧ s4 = .int .i64 (k : Int) ∧ k ≤ P.length ∧ Lst P k z ∧ Below w.heap.size w wr) (fun _ s4 _ => P.length - (intOf s4).toNat)
    case atStart => exact ⟨0, -1, rfl, rfl, Nat.zero_le _, .inl ⟨rfl, rfl⟩, Below.refl _ _⟩
    case round =>
      obtain ⟨k, z, rfl, rfl, hk, hL, hB⟩ := hrel
      have HB := Lib.hid hB
      have HL := Lib.hid hL
      have HR := Lib.hid (HH.out.below hB)
      clear hB hL hp
      have hp := HR.out.cell
      by_cases hlt : k < P.length
      · have q1 : decide ((k : Int) < (P.length : Int)) = true := decide_eq_true (by omega)
        obtain ⟨t, ht⟩ : ∃ t, P[k]? = some t := ⟨P[k], List.getElem?_eq_getElem hlt⟩
        obtain ⟨A', c', hv, _, _, hRI, _⟩ := HR.out.open
        obtain ⟨rfl, _, rfl⟩ := slice_inj hv
        have RI := Lib.hid hRI
        obtain ⟨g, o, rfl, hX⟩ := hRI k t ht
        have d1 := hX.c1
        have d8 := hX.c8
        have HT := Lib.hid ht
        clear hRI hv ht hX
        cases hkn : t.e.kn with
        | false =>
          rw [hkn] at d1
          have HS := Lib.hid (HL.out.unknown HT.out hkn)
          clear hkn
          go_upto_region 7 with fail
          go_quiet (fail)
          go_wp2_with fail
          exact ⟨⟨k + 1, z, rfl, by simp, by omega, HS.out, below_dN HB.out _⟩, by simp [intOf]; omega⟩
        | true =>
          rw [hkn] at d1
          rcases HL.out with ⟨rfl, hn⟩ | ⟨j, x, rfl, hj, hx⟩
          · have HS := Lib.hid (HL.out.first HT.out hkn)
            clear hkn hn
            go_upto_region 7 with fail
            go_quiet (fail)
            go_wp2_with fail
            exact ⟨⟨k + 1, (k : Int), rfl, by simp, by omega, HS.out, below_dN HB.out _⟩, by simp [intOf]; omega⟩
          · obtain ⟨g', o', e', hX⟩ := RI.out j x hj
            cases e'
            have f8 := hX.c8
            have hjl := (List.getElem?_eq_some_iff.1 hj).1
            have qj : decide ((j : Int) < 0) = false := decide_eq_false (by omega)
            by_cases htl : t.e.t < x.e.t
            · have q3 : decide (t.e.t < x.e.t) = true := decide_eq_true htl
              have HS : Hid (Lst P (k + 1) (k : Int)) := Lib.hid (.inr ⟨k, t, rfl, HT.out, by
                rw [Lst.next HT.out, hx]
                unfold lst1
                simp [hkn, htl]⟩)
              clear hkn hx htl hj hX
              go_upto_region 7 with fail
              go_quiet (fail)
              go_wp2_with fail
              exact ⟨⟨k + 1, (k : Int), rfl, by simp, by omega, HS.out, below_dN HB.out _⟩, by simp [intOf]; omega⟩
            · have q3 : decide (t.e.t < x.e.t) = false := decide_eq_false htl
              have HS : Hid (Lst P (k + 1) (j : Int)) := Lib.hid (.inr ⟨j, x, rfl, hj, by
                rw [Lst.next HT.out, hx]
                unfold lst1
                simp [htl]⟩)
              clear hkn hx htl hj hX
              go_upto_region 7 with fail
              go_quiet (fail)
              go_wp2_with fail
              exact ⟨⟨k + 1, (j : Int), rfl, by simp, by omega, HS.out, below_dN HB.out _⟩, by simp [intOf]; omega⟩
      · have q1 : decide ((k : Int) < (P.length : Int)) = false := decide_eq_false (by omega)
        obtain rfl : k = P.length := by omega
        have hl : ((P.map Xe.e).take P.length) = P.map Xe.e := by rw [← List.length_map (f := Xe.e), List.take_length]
        rcases HL.out with ⟨rfl, hn⟩ | ⟨j, x, rfl, hj, hx⟩
        · rw [hl] at hn
          have hr2 : Hid (room (P.map Xe.e) = none) := Lib.hid (by rw [hr.out]; unfold lst; rw [hn]; rfl)
          clear hn hl
          go_wp2_with fail
          go_ret
          exact ⟨_, F, P, by rw [hr2.out]; rfl, by rw [hr2.out]; rfl, fun _ h => h, (fun h => by rw [hr2.out] at h; cases h), HR.out, Did.of_below HB.out⟩
        · rw [hl] at hx
          have hjl := (List.getElem?_eq_some_iff.1 hj).1
          have hr2 : Hid (room (P.map Xe.e) = some (delL (P.map Xe.e) x.e.ip)) := Lib.hid (by rw [hr.out]; unfold lst; rw [hx]; rfl)
          have HS := Lib.hid (delx_split HH.out.srt hj)
          have XC := Lib.hid (rcut_any P j hjl p F _ wr HR.out)
          have qj : decide ((j : Int) < 0) = false := decide_eq_false (by omega)
          have Hjl := Lib.hid hjl
          clear hx hl hj
          go_wp2_with (go_at_call 28; (with_reducible refine XC.out.mono ?_); rintro e w5 ⟨v5, F5, rfl, hR5, hD5⟩; (have R5 := Lib.hid hR5); (have D5 := Lib.hid hD5); clear hR5 hD5)
          go_ret
          exact ⟨_, _, _, by rw [hr2.out]; rfl, by rw [hr2.out]; exact HS.out, fun y hy => (cut_sub P j).subset hy, (fun _ => by rw [List.length_append, List.length_take, List.length_drop]; omega), R5.out, (Did.of_below HB.out).trans D5.out⟩

/-! ### Find -/
set_option maxRecDepth 100000 in
set_option maxHeartbeats 4000000 in
theorem rFind_any (P : List Xe) (ip now : Int) (hn : U64 now) (p : Nat) (F : Nat → Prop) (v : Value) (w : World) (h : Rc w p F v P) :
    Calls Try.prog 20 #[.pointer (some ⟨p, 0, none⟩), .int .u32 ip, .int .u64 now] w fun e w' => e = .returned (.tuple #[(findL (P.map Xe.e) ip now).1.val, .bool (findL (P.map Xe.e) ip now).2]) ∧ Below w.heap.size w w' := by
  obtain ⟨z, hz⟩ := pos_ex P ip
  have HZ := Lib.hid hz
  obtain ⟨f, hfe⟩ : ∃ f, findL (P.map Xe.e) ip now = f := ⟨_, rfl⟩
  rw [hfe]
  have HF := Lib.hid hfe
  have HH := Lib.hid h
  have h32 := h.few
  have HB : Hid (Below w.heap.size w (w.alloc (.cells #[.int .u8 0, .int .u8 0, .int .u8 0, .int .u8 0, .int .u8 0, .int .u8 0] 34))) := Lib.hid ((Below.refl _ w).alloc (Nat.le_refl _) _)
  have hR := Lib.hid (heap_alloc_new w (.cells #[.int .u8 0, .int .u8 0, .int .u8 0, .int .u8 0, .int .u8 0, .int .u8 0] 34))
  have X := Lib.hid ((h.below HB.out).find hz)
  have HN := Lib.hid hn
  clear hfe h hz hn
  go_enter Try.func20, Try.ntmps20
  go_upto_region 2 with (go_at_call 26; (with_reducible refine X.out.mono ?_); rintro e w2 ⟨rfl, rfl⟩)
  clear X
  have HR := Lib.hid (HH.out.below HB.out)
  generalize w.alloc (.cells #[.int .u8 0, .int .u8 0, .int .u8 0, .int .u8 0, .int .u8 0, .int .u8 0] 34) = w1 at HB hR HR ⊢
  obtain ⟨G, hG⟩ : ∃ G, w.heap.size = G := ⟨_, rfl⟩
  have HG := Lib.hid hG
  rw [hG] at hR HB ⊢
  clear hG HH
  have hp := HR.out.cell
  rcases HZ.out with ⟨rfl, hno⟩ | ⟨k, x, rfl, hk, hx⟩
  · have hf : f = (Mc.zero, false) := by
      rw [← HF.out]
      unfold findL
      rw [Pos.look_none hno]
    subst hf
    clear hno HF HZ
    go_wp2_with (refine wpList_store_row rfl 34 (.tmp 6) (.tmp 36) rfl G #[.int .u8 0, .int .u8 0, .int .u8 0, .int .u8 0, .int .u8 0, .int .u8 0] rfl rfl 34 _ hR.out macSize rfl (by simp [Value.oneCell']) ?_)
    go_wp2_with fail
    (try simp only [Exit.inBlock, Exit.then])
    refine bodyPost_ret (results_cell_tmp_row rfl _ _ G _ #[.int .u8 0, .int .u8 0, .int .u8 0, .int .u8 0, .int .u8 0, .int .u8 0] (0, 0) _ rfl (setRow_heap _ _ _ _ _ _ hR.out) Try.underlying34 rfl macSize) rfl ?_
    refine ⟨rfl, ?_⟩
    rw [HG.out]
    exact below_setRow HB.out (Nat.le_refl _) _
  · subst hx
    have hfl := HF.out
    unfold findL at hfl
    rw [Pos.look_some HR.out.srt hk] at hfl
    simp only at hfl
    obtain ⟨A, c, rfl, hc1, hc2, hRI, _⟩ := HR.out.open
    obtain ⟨g, o, rfl, hX⟩ := hRI k x hk
    have hkl := (List.getElem?_eq_some_iff.1 hk).1
    have X := Lib.hid (fun W => xold_any x now (HR.out.ok x (List.mem_of_getElem? hk)).t HN.out W)
    obtain ⟨od, hod⟩ : ∃ od, old x.e now = od := ⟨_, rfl⟩
    rw [hod] at X hfl
    clear hod HF HZ hRI hk
    obtain ⟨⟨ip', kn, ⟨a1, a2, a3, a4, a5, a6⟩, t, tr, pk⟩, A', c'⟩ := x
    obtain ⟨c0, c1, c2, c3, c4, c5, c6, c7, c8, c9, c10⟩ := hX
    unfold Xe.val Xe.arr at X
    simp only at X hfl c0 c1 c2 c3 c4 c5 c6 c7 c8 c9 c10 ⊢
    generalize pk.length = n at X c10
    have qk : decide ((k : Int) < 0) = false := decide_eq_false (by omega)
    cases kn with
    | false =>
      obtain rfl : (Mc.zero, false) = f := hfl
      clear X
      go_wp2_with (refine wpList_store_row rfl 34 (.tmp 6) (.tmp 36) rfl G #[.int .u8 0, .int .u8 0, .int .u8 0, .int .u8 0, .int .u8 0, .int .u8 0] rfl rfl 34 _ hR.out macSize rfl (by simp [Value.oneCell']) ?_)
      go_wp2_with fail
      (try simp only [Exit.inBlock, Exit.then])
      refine bodyPost_ret (results_cell_tmp_row rfl _ _ G _ #[.int .u8 0, .int .u8 0, .int .u8 0, .int .u8 0, .int .u8 0, .int .u8 0] (0, 0) _ rfl (setRow_heap _ _ _ _ _ _ hR.out) Try.underlying34 rfl macSize) rfl ?_
      refine ⟨rfl, ?_⟩
      rw [HG.out]
      exact below_setRow HB.out (Nat.le_refl _) _
    | true =>
      cases od with
      | true =>
        obtain rfl : (Mc.zero, false) = f := hfl
        go_upto_region 3 with (go_at_call 27; (with_reducible refine (X.out _).mono ?_); rintro e w5 ⟨rfl, h1⟩; (have H1 := Lib.hid h1); clear h1)
        have hR5 := Lib.hid ((H1.out.block G (Array.getElem?_eq_some_iff.1 hR.out).1).trans hR.out)
        have HB5 := Lib.hid (below_to HB.out H1.out (by have := HB.out.size; have := HG.out; omega))
        clear c0 c1 c2 c3 c4 c5 c6 c7 c8 c9 c10 hp X
        go_wp2_with (refine wpList_store_row rfl 34 (.tmp 6) (.tmp 36) rfl G #[.int .u8 0, .int .u8 0, .int .u8 0, .int .u8 0, .int .u8 0, .int .u8 0] rfl rfl 34 _ hR5.out macSize rfl (by simp [Value.oneCell']) ?_)
        go_wp2_with fail
        (try simp only [Exit.inBlock, Exit.then])
        refine bodyPost_ret (results_cell_tmp_row rfl _ _ G _ #[.int .u8 0, .int .u8 0, .int .u8 0, .int .u8 0, .int .u8 0, .int .u8 0] (0, 0) _ rfl (setRow_heap _ _ _ _ _ _ hR5.out) Try.underlying34 rfl macSize) rfl ?_
        refine ⟨rfl, ?_⟩
        rw [HG.out]
        exact below_setRow HB5.out (Nat.le_refl _) _
      | false =>
        obtain rfl : ((⟨a1, a2, a3, a4, a5, a6⟩ : Mc), true) = f := hfl
        have HC : Hid (∀ W, Below w1.heap.size w1 W → W.cell? ⟨p, 0, none⟩ = some (.slice (some ⟨g, o, none⟩) P.length c) ∧ W.cell? ⟨g, o + k * 11 + 2, none⟩ = some (.int .u8 a1) ∧ W.cell? ⟨g, o + k * 11 + 3, none⟩ = some (.int .u8 a2) ∧ W.cell? ⟨g, o + k * 11 + 4, none⟩ = some (.int .u8 a3) ∧ W.cell? ⟨g, o + k * 11 + 5, none⟩ = some (.int .u8 a4) ∧ W.cell? ⟨g, o + k * 11 + 6, none⟩ = some (.int .u8 a5) ∧ W.cell? ⟨g, o + k * 11 + 7, none⟩ = some (.int .u8 a6)) := Lib.hid (fun W hW => by
          have hc : ∀ {a : Addr} {v : Value}, w1.cell? a = some v → W.cell? a = some v := fun hi => (hW.cell (World.block_lt_of_cell? w1 _ hi)).trans hi
          exact ⟨hc hp, hc c2, hc c3, hc c4, hc c5, hc c6, hc c7⟩)
        go_upto_region 4 with (go_at_call 27; (with_reducible refine (X.out _).mono ?_); rintro e w5 ⟨rfl, h1⟩; (have H1 := Lib.hid h1); clear h1)
        have hR5 := Lib.hid ((H1.out.block G (Array.getElem?_eq_some_iff.1 hR.out).1).trans hR.out)
        have HB5 := Lib.hid (below_to HB.out H1.out (by have := HB.out.size; have := HG.out; omega))
        clear c0 c1 c2 c3 c4 c5 c6 c7 c8 c9 c10 hp X
        obtain ⟨hp, c2, c3, c4, c5, c6, c7⟩ := HC.out _ H1.out
        go_wp2_with (refine wpList_store_row rfl 34 (.tmp 6) (.tmp 44) rfl G #[.int .u8 a1, .int .u8 a2, .int .u8 a3, .int .u8 a4, .int .u8 a5, .int .u8 a6] rfl rfl 34 _ hR5.out macSize rfl (by simp [Value.oneCell']) ?_)
        go_wp2_with fail
        (try simp only [Exit.inBlock, Exit.then])
        refine bodyPost_ret (results_cell_tmp_row rfl _ _ G _ #[.int .u8 a1, .int .u8 a2, .int .u8 a3, .int .u8 a4, .int .u8 a5, .int .u8 a6] (0, 0) _ rfl (setRow_heap _ _ _ _ _ _ hR5.out) Try.underlying34 rfl macSize) rfl ?_
        refine ⟨rfl, ?_⟩
        rw [HG.out]
        exact below_setRow HB5.out (Nat.le_refl _) _
end Go.Proofs.Ytfeipeninmclkaa
