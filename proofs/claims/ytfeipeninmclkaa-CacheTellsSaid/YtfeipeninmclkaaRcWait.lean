/-
  What is proved: the document's Wait by contract.
  Conditions: the numbers fit their types.
-/
import Derived.Test.YtfeipeninmclkaaRcStr
namespace Go.Proofs.Ytfeipeninmclkaa
open Go.RowKit

def RWaitAt (L : List En) (ip now : Int) (bs : List UInt8) (p : Nat) (F : Nat → Prop) (w : World) (e : Ending) (w' : World) : Prop :=
  ∃ v' F' P', e = .returned (.tuple #[.bool (waitA L ip now), .int .i64 (waitC L ip now)]) ∧ P'.map Xe.e = waitL L ip now bs ∧ Rc w' p F' v' P' ∧ Did w w' F F'
theorem asks_row (w : World) (F : Nat → Prop) (bs : List UInt8) : SRow (w.alloc (.cells #[.string (txt bs)] 9)) (Nw w (w.alloc (.cells #[.string (txt bs)] 9)) F) (some ⟨w.heap.size, 0, none⟩) 1 [bs] :=
  ⟨⟨rfl, .inr ⟨w.heap.size, 1, _, rfl, Nat.zero_le _, heap_alloc_new w _, Nat.le_refl _, by simp [maxLen], rfl, rfl⟩⟩, fun a ha => by cases ha; exact .inr ⟨Nat.le_refl _, by simp⟩⟩
theorem xasks_ok {ip now : Int} (bs : List UInt8) (hip : U32 ip) (hn : U64 now) : (asks1 ip now bs).Ok := ⟨hip, hn, (show (0 : Int) ≤ 1 by omega), (show (1 : Int) ≤ 3 by omega), (by simp [asks1]), (fun h => by cases h), fun _ => (by simp [asks1])⟩
/-- Of a row without the address. -/
theorem new_parts {L L' : List En} {ip now : Int} {bs : List UInt8} (ha : waitA L ip now = newA L') (hc : waitC L ip now = newC L') (hl : waitL L ip now bs = newL L' ip now bs) :
    (room L' = none → waitA L ip now = false ∧ waitC L ip now = 5 ∧ waitL L ip now bs = L') ∧ ∀ L2, room L' = some L2 → waitA L ip now = true ∧ waitC L ip now = 0 ∧ waitL L ip now bs = putL L2 (asks1 ip now bs) := by
  rw [ha, hc, hl]
  unfold newA newC newL
  refine ⟨fun h => ?_, fun L2 h => ?_⟩ <;> rw [h] <;> exact ⟨rfl, rfl, rfl⟩

set_option maxRecDepth 100000 in
set_option maxHeartbeats 8000000 in
theorem rwait_any (P : List Xe) (ip now : Int) (bs : List UInt8) (hip : U32 ip) (hn : U64 now) (p : Nat) (F : Nat → Prop) (v : Value) (w : World) (h : Rc w p F v P) :
    Calls Try.prog 12 #[.pointer (some ⟨p, 0, none⟩), .int .u32 ip, .string (txt bs), .int .u64 now] w (RWaitAt (P.map Xe.e) ip now bs p F w) := by
  obtain ⟨z, hz⟩ := pos_ex P ip
  have HZ := Lib.hid hz
  have HH := Lib.hid h
  have h32 := h.few
  have HK : Hid ((asks1 ip now bs).Ok) := Lib.hid (xasks_ok bs hip hn)
  have HN := Lib.hid hn
  have X := Lib.hid (h.find hz)
  clear hz hip hn
  rcases HZ.out with ⟨rfl, hno⟩ | ⟨k, s, rfl, hk, hx⟩
  · have Hno := Lib.hid hno
    have hst : stand (P.map Xe.e) ip now = 0 := by unfold stand; rw [Pos.look_none hno]
    have hNC : Hid ((room (P.map Xe.e) = none → waitA (P.map Xe.e) ip now = false ∧ waitC (P.map Xe.e) ip now = 5 ∧ waitL (P.map Xe.e) ip now bs = P.map Xe.e) ∧ ∀ L2, room (P.map Xe.e) = some L2 → waitA (P.map Xe.e) ip now = true ∧ waitC (P.map Xe.e) ip now = 0 ∧ waitL (P.map Xe.e) ip now bs = putL L2 (asks1 ip now bs)) :=
      Lib.hid (new_parts (by unfold waitA; rw [if_pos hst]) (by unfold waitC; rw [if_pos hst]) (by unfold waitL; rw [if_pos hst]))
    have XR := Lib.hid (rroom_any P p F v w h)
    clear hno hst h
    go_enter Try.func12, Try.ntmps12
    go_upto_region 11 with (go_at_call 26; (with_reducible refine X.out.mono ?_); rintro e w2 ⟨rfl, hw2⟩; subst w2)
    clear X
    cases hr : room (P.map Xe.e) with
    | none =>
      unfold RRoomAt at XR
      rw [hr] at XR
      have hwc2 := Lib.hid (hNC.out.1 hr)
      clear hr
      go_wp2_with (go_at_call 29; (with_reducible refine XR.out.mono ?_); rintro e w6 ⟨v6, F6, P6, rfl, hm, _, _, hR6, hD6⟩; (have R6 := Lib.hid hR6); (have D6 := Lib.hid hD6); (have M6 := Lib.hid hm); clear hR6 hD6 hm)
      go_ret2
      exact ⟨_, _, _, by rw [hwc2.out.1, hwc2.out.2.1]; rfl, by rw [hwc2.out.2.2, M6.out]; rfl, R6.out, (Did.refl w F).trans D6.out⟩
    | some L' =>
      unfold RRoomAt at XR
      rw [hr] at XR
      have hwc2 := Lib.hid (hNC.out.2 L' hr)
      clear hr
      go_upto_region 14 with (go_at_call 29; (with_reducible refine XR.out.mono ?_); rintro e w6 ⟨v6, F6, P6, rfl, hm, hs6, hl6, hR6, hD6⟩; (have R6 := Lib.hid hR6); (have D6 := Lib.hid hD6); (have M6 := Lib.hid hm); (have S6 := Lib.hid hs6); (have L6 := Lib.hid hl6); clear hR6 hD6 hm hs6 hl6)
      have B7 := Lib.hid (show Below w6.heap.size w6 (w6.alloc (.cells #[.string (txt bs)] 9)) from (Below.refl _ w6).alloc (Nat.le_refl _) _)
      have XP : Hid (Calls Try.prog 30 #[.pointer (some ⟨p, 0, none⟩), .agg #[.int .u32 ip, .bool false, .int .u8 0, .int .u8 0, .int .u8 0, .int .u8 0, .int .u8 0, .int .u8 0, .int .u64 now, .int .i64 1, .slice (some ⟨w6.heap.size, 0, none⟩) 1 1]] (w6.alloc (.cells #[.string (txt bs)] 9)) (PutAt P6 ⟨asks1 ip now bs, some ⟨w6.heap.size, 0, none⟩, 1⟩ p (Nw w6 (w6.alloc (.cells #[.string (txt bs)] 9)) F6) (w6.alloc (.cells #[.string (txt bs)] 9)))) :=
        Lib.hid (rput_any P6 ⟨asks1 ip now bs, some ⟨w6.heap.size, 0, none⟩, 1⟩ HK.out (no_map Hno.out S6.out) (L6.out rfl) p _ v6 _ (R6.out.nw B7.out) (asks_row w6 F6 bs))
      clear XR
      go_wp2_with (go_at_call 30; (with_reducible refine XP.out.mono ?_); rintro e w8 ⟨v8, F8, P8, rfl, hm, hR8, hD8⟩; (have R8 := Lib.hid hR8); (have D8 := Lib.hid hD8); (have M8 := Lib.hid hm); clear hR8 hD8 hm)
      go_ret2
      exact ⟨_, _, _, by rw [hwc2.out.1, hwc2.out.2.1]; rfl, by rw [hwc2.out.2.2, M8.out, M6.out]; rfl, R8.out, (((Did.refl w F).trans D6.out).trans (Nw.did B7.out)).trans D8.out⟩
  · subst hx
    have hlk : look (P.map Xe.e) s.e.ip = some s.e := Pos.look_some h.srt hk
    have Hk := Lib.hid hk
    have hkl := (List.getElem?_eq_some_iff.1 hk).1
    have hsok := Lib.hid (h.ok s (List.mem_of_getElem? hk))
    have hss := Lib.hid (h.strs s (List.mem_of_getElem? hk))
    obtain ⟨A, c, rfl, hc1, hc2, hRI, _⟩ := h.open
    obtain ⟨g, o, rfl, hX⟩ := hRI k s hk
    have HX := Lib.hid hX
    have hp := h.cell
    have qk : decide ((k : Int) ≥ 0) = true := decide_eq_true (by omega)
    have qk2 : decide (0 ≤ (k : Int)) = true := decide_eq_true (by omega)
    have HC := Lib.hid (rcut_any P k hkl p F _ w h)
    have HDX := Lib.hid (delx_split h.srt hk)
    have XO := Lib.hid (fun W => xold_any s now hsok.out.t HN.out W)
    obtain ⟨od, hod⟩ : ∃ od, old s.e now = od := ⟨_, rfl⟩
    rw [hod] at XO
    clear hRI hX hk h
    cases hkn : s.e.kn with
    | false =>
      have hst : stand (P.map Xe.e) s.e.ip now = 2 := by unfold stand; rw [hlk]; simp [hkn]
      have hwa : Hid (waitA (P.map Xe.e) s.e.ip now = false) := Lib.hid (by unfold waitA; rw [hst]; rfl)
      have d1 := HX.out.c1
      have d10 := HX.out.c10
      rw [hkn] at d1
      by_cases h4 : 4 ≤ s.e.pk.length
      · have hwc : Hid (waitC (P.map Xe.e) s.e.ip now = 5) := Lib.hid (by
          unfold waitC
          rw [hst]
          show queueC _ _ = 5
          unfold queueC
          rw [hlk]
          simp [h4])
        have hwl : Hid (waitL (P.map Xe.e) s.e.ip now bs = P.map Xe.e) := Lib.hid (by
          unfold waitL
          rw [hst]
          show queueL _ _ _ = _
          unfold queueL
          rw [hlk]
          simp [h4])
        have q4 : decide (4 ≤ (s.e.pk.length : Int)) = true := decide_eq_true (by omega)
        clear hkn hst h4 hod hlk
        go_enter Try.func12, Try.ntmps12
        go_wp2_with (go_at_call 26; (with_reducible refine X.out.mono ?_); rintro e w2 ⟨rfl, hw2⟩; subst w2)
        go_ret2
        exact ⟨_, _, _, by rw [hwa.out, hwc.out]; rfl, by rw [hwl.out], HH.out, Did.refl _ _⟩
      · have hwc : Hid (waitC (P.map Xe.e) s.e.ip now = 0) := Lib.hid (by
          unfold waitC
          rw [hst]
          show queueC _ _ = 0
          unfold queueC
          rw [hlk]
          simp [h4])
        have hwl : Hid (waitL (P.map Xe.e) s.e.ip now bs = putL (P.map Xe.e) (more s.e bs)) := Lib.hid (by
          unfold waitL
          rw [hst]
          show queueL _ _ _ = _
          unfold queueL
          rw [hlk]
          simp [h4])
        have Hmo := Lib.hid (more_ok hsok.out hkn (by omega) bs)
        have q4 : decide (4 ≤ (s.e.pk.length : Int)) = false := decide_eq_false (by omega)
        have HSR := Lib.hid hss.out.rd
        obtain ⟨A2, hA2⟩ : ∃ A, s.A = A := ⟨_, rfl⟩
        obtain ⟨c2, hc2'⟩ : ∃ c, s.c = c := ⟨_, rfl⟩
        obtain ⟨pk, hpk⟩ : ∃ pk, s.e.pk = pk := ⟨_, rfl⟩
        obtain ⟨n, hpn⟩ : ∃ n, pk.length = n := ⟨_, rfl⟩
        have HLm : Hid ((more s.e bs).pk.length = n + 1) := Lib.hid (by show (s.e.pk ++ [bs]).length = n + 1; rw [hpk, List.length_append, hpn]; rfl)
        have Hpk := Lib.hid hpk
        rw [hA2, hc2', hpk, hpn] at HSR d10
        rw [hpk, hpn] at q4 h4
        have hthaw : Hid (∀ W, Below w.heap.size w W → W.frozen? ⟨g, o + k * 11 + 10, none⟩ = false) := Lib.hid (fun W hW => by
          obtain ⟨A', c', e, _, _, _, _, h5⟩ := (HH.out.below hW).row
          cases e
          obtain ⟨_, cur, hcur⟩ := h5 _ rfl
          simp [World.frozen?, hcur])
        have KS : Hid (∀ W', Below w.heap.size w W' → (fun W' => W'.cell? ⟨p, 0, none⟩ = some (.slice (some ⟨g, o, none⟩) P.length c) ∧ W'.cell? ⟨g, o + k * 11 + 10, none⟩ = some (.slice A2 n c2) ∧ W'.frozen? ⟨g, o + k * 11 + 10, none⟩ = false) W') := Lib.hid (fun W' hW => ⟨(HH.out.below hW).cell, (hW.cell (World.block_lt_of_cell? w _ d10)).trans d10, hthaw.out W' hW⟩)
        have SR : Hid (∀ W', Below w.heap.size w W' → RdT W' (.slice A2 n c2) pk) := Lib.hid (fun W' hW => HSR.out.below hW)
        have HL0 := Lib.hid (show n = ([] ++ pk).length by rw [List.nil_append, hpn])
        have HLa := Lib.hid (show ([] : List (List UInt8)).length + pk.length ≤ 200 by rw [hpn]; simp; omega)
        have HLb := Lib.hid (show pk.length + [bs].length ≤ 200 by rw [hpn]; simp; omega)
        have HLk := Lib.hid hpn.symm
        have HL1 := Lib.hid (show (pk ++ [bs]).length = n + 1 by rw [List.length_append, hpn]; rfl)
        have M0a := Lib.hid ((Tk2.first (Below.refl w.heap.size w) bs).below (below_drew _))
        have M0b := Lib.hid ((Tk2.firstX (Below.refl w.heap.size w) bs).below (below_drew _))
        have M0c := Lib.hid ((Tk2.first (Below.refl w.heap.size w) bs).alloc.below (below_drew _))
        rw [World.size_alloc] at M0c
        clear hkn hst h4 hod hlk hA2 hc2' hpk hpn
        go_enter Try.func12, Try.ntmps12
        go_upto_region 5 with (go_at_call 26; (with_reducible refine X.out.mono ?_); rintro e w2 ⟨rfl, hw2⟩; subst w2)
        clear X d1 d10 q4
        refine HT.start (S := fun W' => W'.cell? ⟨p, 0, none⟩ = some (.slice (some ⟨g, o, none⟩) P.length c) ∧ W'.cell? ⟨g, o + k * 11 + 10, none⟩ = some (.slice A2 n c2) ∧ W'.frozen? ⟨g, o + k * 11 + 10, none⟩ = false) 20 1 (by kernel_rfl) rfl ?_
        refine HT.take 0 ⟨some 38, _, _, _, _, _⟩ (.pointer (some ⟨p, 0, none⟩)) rfl (by kernel_rfl) (by kernel_rfl) (by kernel_rfl) (by kernel_rfl) (fun _ _ _ h => h) (Or.inl ⟨by rfl, ?_⟩) (KS.out _ (below_drew w)) ?_
        · intro W hSw
          (try dsimp only at hSw)
          go_simp
        try simp only [Act.put, List.setIfInBounds_toArray, List.set_cons_zero, List.set_cons_succ]
        refine HT.take 1 ⟨some 39, _, _, _, _, _⟩ (.pointer (some ⟨p, 0, none⟩)) rfl (by kernel_rfl) (by kernel_rfl) (by kernel_rfl) (by kernel_rfl) (fun _ _ _ h => h) (Or.inl ⟨by rfl, ?_⟩) (KS.out _ (below_drew w)) ?_
        · intro W hSw
          (try dsimp only at hSw)
          go_simp
        try simp only [Act.put, List.setIfInBounds_toArray, List.set_cons_zero, List.set_cons_succ]
        refine HT.take 2 ⟨some 40, _, _, _, _, _⟩ (.pointer (some ⟨p, 0, none⟩)) rfl (by kernel_rfl) (by kernel_rfl) (by kernel_rfl) (by kernel_rfl) (fun _ _ _ h => h) (Or.inl ⟨by rfl, ?_⟩) (KS.out _ (below_drew w)) ?_
        · intro W hSw
          (try dsimp only at hSw)
          go_simp
        try simp only [Act.put, List.setIfInBounds_toArray, List.set_cons_zero, List.set_cons_succ]
        refine HT.take 3 ⟨some 41, _, _, _, _, _⟩ (.slice (some ⟨g, o, none⟩) P.length c) rfl (by kernel_rfl) (by kernel_rfl) (by kernel_rfl) (by kernel_rfl) (fun _ _ _ h => h) (Or.inl ⟨by rfl, ?_⟩) (KS.out _ (below_drew w)) ?_
        · intro W hSw
          (try dsimp only at hSw)
          go_simp
        try simp only [Act.put, List.setIfInBounds_toArray, List.set_cons_zero, List.set_cons_succ]
        refine HT.take 4 ⟨some 42, _, _, _, _, _⟩ (.int .i64 (k : Int)) rfl (by kernel_rfl) (by kernel_rfl) (by kernel_rfl) (by kernel_rfl) (fun _ _ _ h => h) (Or.inl ⟨by rfl, ?_⟩) (KS.out _ (below_drew w)) ?_
        · intro W hSw
          (try dsimp only at hSw)
          go_simp
        try simp only [Act.put, List.setIfInBounds_toArray, List.set_cons_zero, List.set_cons_succ]
        refine HT.take 6 ⟨some 44, _, _, _, _, _⟩ (.pointer (some ⟨p, 0, none⟩)) rfl (by kernel_rfl) (by kernel_rfl) (by kernel_rfl) (by kernel_rfl) (fun _ _ _ h => h) (Or.inl ⟨by rfl, ?_⟩) (KS.out _ (below_drew w)) ?_
        · intro W hSw
          (try dsimp only at hSw)
          go_simp
        try simp only [Act.put, List.setIfInBounds_toArray, List.set_cons_zero, List.set_cons_succ]
        refine HT.take 7 ⟨some 45, _, _, _, _, _⟩ (.pointer (some ⟨p, 0, none⟩)) rfl (by kernel_rfl) (by kernel_rfl) (by kernel_rfl) (by kernel_rfl) (fun _ _ _ h => h) (Or.inl ⟨by rfl, ?_⟩) (KS.out _ (below_drew w)) ?_
        · intro W hSw
          (try dsimp only at hSw)
          go_simp
        try simp only [Act.put, List.setIfInBounds_toArray, List.set_cons_zero, List.set_cons_succ]
        refine HT.take 8 ⟨some 46, _, _, _, _, _⟩ (.pointer (some ⟨p, 0, none⟩)) rfl (by kernel_rfl) (by kernel_rfl) (by kernel_rfl) (by kernel_rfl) (fun _ _ _ h => h) (Or.inl ⟨by rfl, ?_⟩) (KS.out _ (below_drew w)) ?_
        · intro W hSw
          (try dsimp only at hSw)
          go_simp
        try simp only [Act.put, List.setIfInBounds_toArray, List.set_cons_zero, List.set_cons_succ]
        refine HT.take 9 ⟨some 47, _, _, _, _, _⟩ (.slice (some ⟨g, o, none⟩) P.length c) rfl (by kernel_rfl) (by kernel_rfl) (by kernel_rfl) (by kernel_rfl) (fun _ _ _ h => h) (Or.inl ⟨by rfl, ?_⟩) (KS.out _ (below_drew w)) ?_
        · intro W hSw
          (try dsimp only at hSw)
          go_simp
        try simp only [Act.put, List.setIfInBounds_toArray, List.set_cons_zero, List.set_cons_succ]
        refine HT.take 10 ⟨some 48, _, _, _, _, _⟩ (.int .i64 (k : Int)) rfl (by kernel_rfl) (by kernel_rfl) (by kernel_rfl) (by kernel_rfl) (fun _ _ _ h => h) (Or.inl ⟨by rfl, ?_⟩) (KS.out _ (below_drew w)) ?_
        · intro W hSw
          (try dsimp only at hSw)
          go_simp
        try simp only [Act.put, List.setIfInBounds_toArray, List.set_cons_zero, List.set_cons_succ]
        refine HT.take 11 ⟨some 49, _, _, _, _, _⟩ (.pointer (some ⟨g, o + k * 11, none⟩)) rfl (by kernel_rfl) (by kernel_rfl) (by kernel_rfl) (by kernel_rfl) (fun _ _ _ h => h) (Or.inl ⟨by rfl, ?_⟩) (KS.out _ (below_drew w)) ?_
        · intro W hSw
          (try dsimp only at hSw)
          go_simp
        try simp only [Act.put, List.setIfInBounds_toArray, List.set_cons_zero, List.set_cons_succ]
        refine HT.take 12 ⟨some 50, _, _, _, _, _⟩ (.pointer (some ⟨g, o + k * 11 + 10, none⟩)) rfl (by kernel_rfl) (by kernel_rfl) (by kernel_rfl) (by kernel_rfl) (fun _ _ _ h => h) (Or.inl ⟨by rfl, ?_⟩) (KS.out _ (below_drew w)) ?_
        · intro W hSw
          (try dsimp only at hSw)
          go_simp
        try simp only [Act.put, List.setIfInBounds_toArray, List.set_cons_zero, List.set_cons_succ]
        refine HT.take 13 ⟨some 51, _, _, _, _, _⟩ (.slice A2 n c2) rfl (by kernel_rfl) (by kernel_rfl) (by kernel_rfl) (by kernel_rfl) (fun _ _ _ h => h) (Or.inl ⟨by rfl, ?_⟩) (KS.out _ (below_drew w)) ?_
        · intro W hSw
          (try dsimp only at hSw)
          go_simp
        try simp only [Act.put, List.setIfInBounds_toArray, List.set_cons_zero, List.set_cons_succ]
        refine HT.take 15 ⟨some 53, _, _, _, _, _⟩ (.string (txt bs)) rfl (by kernel_rfl) (by kernel_rfl) (by kernel_rfl) (by kernel_rfl) (fun _ _ _ h => h) (Or.inl ⟨by rfl, ?_⟩) (KS.out _ (below_drew w)) ?_
        · intro W hSw
          (try dsimp only at hSw)
          go_simp
        try simp only [Act.put, List.setIfInBounds_toArray, List.set_cons_zero, List.set_cons_succ]
        refine HT.all [5, 16] (by kernel_rfl) (by simp) ?_
        refine HT.cons 5 ⟨some 43, _, _, _, _, _⟩ rfl (by decide) (fun K hK => ?_) ?_
        · go_simp
          refine hK _ _ (KS.out _ (below_dN (below_al (Below.refl _ w) _) 1)) ?_
          clear hK K
          try simp only [Act.put, List.setIfInBounds_toArray, List.set_cons_zero, List.set_cons_succ]
          refine HT.all [14, 16] (by kernel_rfl) (by simp) ?_
          refine HT.cons 14 ⟨some 52, _, _, _, _, _⟩ rfl (by decide) (fun K hK => ?_) ?_
          · refine step_append_tk rfl (.tmp 43) (.tmp 51) rfl rfl _ _ [] pk _ 0 n rfl rfl rfl ⟨M0a.out, SR.out _ M0a.out.old⟩ HLa.out HL0.out 52 rfl ?_
            intro g1 d1 w6 h1
            have M1 := Lib.hid (show Tk2 w w6 g1 d1 pk _ bs from h1)
            clear h1
            refine hK _ _ (KS.out _ M1.out.old) ?_
            clear hK K
            try simp only [Act.put, List.setIfInBounds_toArray, List.set_cons_zero, List.set_cons_succ]
            refine HT.all [16] (by kernel_rfl) (by simp) ?_
            refine HT.cons 16 ⟨some 54, _, _, _, _, _⟩ rfl (by decide) (fun K hK => ?_) HT.nil
            go_simp
            refine hK _ _ (KS.out _ (below_al M1.out.old _)) ?_
            clear hK K
            try simp only [Act.put, List.setIfInBounds_toArray, List.set_cons_zero, List.set_cons_succ]
            refine HT.all [17] (by kernel_rfl) (by simp) ?_
            refine HT.cons 17 ⟨some 55, _, _, _, _, _⟩ rfl (by decide) (fun K hK => ?_) HT.nil
            refine step_append_tk rfl (.tmp 52) (.tmp 54) rfl rfl _ _ pk [bs] _ n (n + 1) rfl HLk.out rfl ⟨M1.out.alloc, RdT.one ((M1.out.alloc).x _ rfl).1⟩ HLb.out HL1.out.symm 55 rfl ?_
            intro g3 d3 w8 h1
            have M3 := Lib.hid h1
            clear h1
            refine hK _ _ (KS.out _ M3.out.old) ?_
            clear hK K
            try simp only [Act.put, List.setIfInBounds_toArray, List.set_cons_zero, List.set_cons_succ]
            refine HT.take 18 ⟨some 56, _, _, _, _, _⟩ (.pointer (some ⟨g, o + k * 11, none⟩)) rfl (by kernel_rfl) (by kernel_rfl) (by kernel_rfl) (by kernel_rfl) (fun _ _ _ h => h) (Or.inl ⟨by rfl, ?_⟩) (KS.out _ M3.out.old) ?_
            · intro W hSw
              (try dsimp only at hSw)
              go_simp
            try simp only [Act.put, List.setIfInBounds_toArray, List.set_cons_zero, List.set_cons_succ]
            refine HT.take 19 ⟨some 57, _, _, _, _, _⟩ (.pointer (some ⟨g, o + k * 11 + 10, none⟩)) rfl (by kernel_rfl) (by kernel_rfl) (by kernel_rfl) (by kernel_rfl) (fun _ _ _ h => h) (Or.inl ⟨by rfl, ?_⟩) (KS.out _ M3.out.old) ?_
            · intro W hSw
              (try dsimp only at hSw)
              go_simp
            try simp only [Act.put, List.setIfInBounds_toArray, List.set_cons_zero, List.set_cons_succ]
            refine HT.tail (by kernel_rfl) ?_
            obtain ⟨_, hp8, hf8⟩ := KS.out _ M3.out.old
            refine wpAny_ready (rs := [20]) (by kernel_rfl) (by simp) ?_
            refine AllReady.cons (o := ⟨none, _, _, _, _, _⟩) rfl (fun K hK => ?_) AllReady.nil
            go_simp
            refine hK _ _ ?_
            clear hK K
            try simp only [Act.put]
            refine wpAny_done (by kernel_rfl) ?_ _
            clear hp8 hf8
            go_wp2_with fail
            go_ret2
            have M4 := M3.out
            rw [← Hpk.out] at M4
            have hst := HH.out.setT (x := ⟨more s.e bs, some ⟨g3, 0, none⟩, d3⟩) M4.old Hk.out ⟨owns_base M4.row (Nat.zero_le _), fun a ha => by cases ha; exact .inr ⟨ownBlock_ge M4.row g3 rfl, M4.lt⟩⟩ Hmo.out rfl rfl rfl rfl rfl
            have e1 : (more s.e bs).pk.length = n + 1 := HLm.out
            simp only [e1] at hst
            exact ⟨_, _, _, by rw [hwa.out, hwc.out]; rfl, by rw [hwl.out]; exact hst.1, hst.2.1, hst.2.2⟩
          · refine HT.cons 16 ⟨some 54, _, _, _, _, _⟩ rfl (by decide) (fun K hK => ?_) HT.nil
            go_simp
            refine hK _ _ (KS.out _ (below_dN (below_al (below_al (Below.refl _ w) _) _) 1)) ?_
            clear hK K
            try simp only [Act.put, List.setIfInBounds_toArray, List.set_cons_zero, List.set_cons_succ]
            refine HT.all [14] (by kernel_rfl) (by simp) ?_
            refine HT.cons 14 ⟨some 52, _, _, _, _, _⟩ rfl (by decide) (fun K hK => ?_) HT.nil
            refine step_append_tk rfl (.tmp 43) (.tmp 51) rfl rfl _ _ [] pk _ 0 n rfl rfl rfl ⟨M0c.out, SR.out _ M0c.out.old⟩ HLa.out HL0.out 52 rfl ?_
            intro g1 d1 w6 h1
            have M1 := Lib.hid (show Tk2 w w6 g1 d1 pk _ bs from h1)
            clear h1
            refine hK _ _ (KS.out _ M1.out.old) ?_
            clear hK K
            try simp only [Act.put, List.setIfInBounds_toArray, List.set_cons_zero, List.set_cons_succ]
            refine HT.all [17] (by kernel_rfl) (by simp) ?_
            refine HT.cons 17 ⟨some 55, _, _, _, _, _⟩ rfl (by decide) (fun K hK => ?_) HT.nil
            refine step_append_tk rfl (.tmp 52) (.tmp 54) rfl rfl _ _ pk [bs] _ n (n + 1) rfl HLk.out rfl ⟨M1.out, RdT.one ((M1.out).x _ rfl).1⟩ HLb.out HL1.out.symm 55 rfl ?_
            intro g3 d3 w8 h1
            have M3 := Lib.hid h1
            clear h1
            refine hK _ _ (KS.out _ M3.out.old) ?_
            clear hK K
            try simp only [Act.put, List.setIfInBounds_toArray, List.set_cons_zero, List.set_cons_succ]
            refine HT.take 18 ⟨some 56, _, _, _, _, _⟩ (.pointer (some ⟨g, o + k * 11, none⟩)) rfl (by kernel_rfl) (by kernel_rfl) (by kernel_rfl) (by kernel_rfl) (fun _ _ _ h => h) (Or.inl ⟨by rfl, ?_⟩) (KS.out _ M3.out.old) ?_
            · intro W hSw
              (try dsimp only at hSw)
              go_simp
            try simp only [Act.put, List.setIfInBounds_toArray, List.set_cons_zero, List.set_cons_succ]
            refine HT.take 19 ⟨some 57, _, _, _, _, _⟩ (.pointer (some ⟨g, o + k * 11 + 10, none⟩)) rfl (by kernel_rfl) (by kernel_rfl) (by kernel_rfl) (by kernel_rfl) (fun _ _ _ h => h) (Or.inl ⟨by rfl, ?_⟩) (KS.out _ M3.out.old) ?_
            · intro W hSw
              (try dsimp only at hSw)
              go_simp
            try simp only [Act.put, List.setIfInBounds_toArray, List.set_cons_zero, List.set_cons_succ]
            refine HT.tail (by kernel_rfl) ?_
            obtain ⟨_, hp8, hf8⟩ := KS.out _ M3.out.old
            refine wpAny_ready (rs := [20]) (by kernel_rfl) (by simp) ?_
            refine AllReady.cons (o := ⟨none, _, _, _, _, _⟩) rfl (fun K hK => ?_) AllReady.nil
            go_simp
            refine hK _ _ ?_
            clear hK K
            try simp only [Act.put]
            refine wpAny_done (by kernel_rfl) ?_ _
            clear hp8 hf8
            go_wp2_with fail
            go_ret2
            have M4 := M3.out
            rw [← Hpk.out] at M4
            have hst := HH.out.setT (x := ⟨more s.e bs, some ⟨g3, 0, none⟩, d3⟩) M4.old Hk.out ⟨owns_base M4.row (Nat.zero_le _), fun a ha => by cases ha; exact .inr ⟨ownBlock_ge M4.row g3 rfl, M4.lt⟩⟩ Hmo.out rfl rfl rfl rfl rfl
            have e1 : (more s.e bs).pk.length = n + 1 := HLm.out
            simp only [e1] at hst
            exact ⟨_, _, _, by rw [hwa.out, hwc.out]; rfl, by rw [hwl.out]; exact hst.1, hst.2.1, hst.2.2⟩
        · refine HT.cons 16 ⟨some 54, _, _, _, _, _⟩ rfl (by decide) (fun K hK => ?_) HT.nil
          go_simp
          refine hK _ _ (KS.out _ (below_dN (below_al (Below.refl _ w) _) 1)) ?_
          clear hK K
          try simp only [Act.put, List.setIfInBounds_toArray, List.set_cons_zero, List.set_cons_succ]
          refine HT.all [5] (by kernel_rfl) (by simp) ?_
          refine HT.cons 5 ⟨some 43, _, _, _, _, _⟩ rfl (by decide) (fun K hK => ?_) HT.nil
          go_simp
          refine hK _ _ (KS.out _ (below_dN (below_al (below_al (Below.refl _ w) _) _) 1)) ?_
          clear hK K
          try simp only [Act.put, List.setIfInBounds_toArray, List.set_cons_zero, List.set_cons_succ]
          refine HT.all [14] (by kernel_rfl) (by simp) ?_
          refine HT.cons 14 ⟨some 52, _, _, _, _, _⟩ rfl (by decide) (fun K hK => ?_) HT.nil
          refine step_append_tk rfl (.tmp 43) (.tmp 51) rfl rfl _ _ [] pk _ 0 n rfl rfl rfl ⟨M0b.out, SR.out _ M0b.out.old⟩ HLa.out HL0.out 52 rfl ?_
          intro g1 d1 w6 h1
          have M1 := Lib.hid (show Tk2 w w6 g1 d1 pk _ bs from h1)
          clear h1
          refine hK _ _ (KS.out _ M1.out.old) ?_
          clear hK K
          try simp only [Act.put, List.setIfInBounds_toArray, List.set_cons_zero, List.set_cons_succ]
          refine HT.all [17] (by kernel_rfl) (by simp) ?_
          refine HT.cons 17 ⟨some 55, _, _, _, _, _⟩ rfl (by decide) (fun K hK => ?_) HT.nil
          refine step_append_tk rfl (.tmp 52) (.tmp 54) rfl rfl _ _ pk [bs] _ n (n + 1) rfl HLk.out rfl ⟨M1.out, RdT.one ((M1.out).x _ rfl).1⟩ HLb.out HL1.out.symm 55 rfl ?_
          intro g3 d3 w8 h1
          have M3 := Lib.hid h1
          clear h1
          refine hK _ _ (KS.out _ M3.out.old) ?_
          clear hK K
          try simp only [Act.put, List.setIfInBounds_toArray, List.set_cons_zero, List.set_cons_succ]
          refine HT.take 18 ⟨some 56, _, _, _, _, _⟩ (.pointer (some ⟨g, o + k * 11, none⟩)) rfl (by kernel_rfl) (by kernel_rfl) (by kernel_rfl) (by kernel_rfl) (fun _ _ _ h => h) (Or.inl ⟨by rfl, ?_⟩) (KS.out _ M3.out.old) ?_
          · intro W hSw
            (try dsimp only at hSw)
            go_simp
          try simp only [Act.put, List.setIfInBounds_toArray, List.set_cons_zero, List.set_cons_succ]
          refine HT.take 19 ⟨some 57, _, _, _, _, _⟩ (.pointer (some ⟨g, o + k * 11 + 10, none⟩)) rfl (by kernel_rfl) (by kernel_rfl) (by kernel_rfl) (by kernel_rfl) (fun _ _ _ h => h) (Or.inl ⟨by rfl, ?_⟩) (KS.out _ M3.out.old) ?_
          · intro W hSw
            (try dsimp only at hSw)
            go_simp
          try simp only [Act.put, List.setIfInBounds_toArray, List.set_cons_zero, List.set_cons_succ]
          refine HT.tail (by kernel_rfl) ?_
          obtain ⟨_, hp8, hf8⟩ := KS.out _ M3.out.old
          refine wpAny_ready (rs := [20]) (by kernel_rfl) (by simp) ?_
          refine AllReady.cons (o := ⟨none, _, _, _, _, _⟩) rfl (fun K hK => ?_) AllReady.nil
          go_simp
          refine hK _ _ ?_
          clear hK K
          try simp only [Act.put]
          refine wpAny_done (by kernel_rfl) ?_ _
          clear hp8 hf8
          go_wp2_with fail
          go_ret2
          have M4 := M3.out
          rw [← Hpk.out] at M4
          have hst := HH.out.setT (x := ⟨more s.e bs, some ⟨g3, 0, none⟩, d3⟩) M4.old Hk.out ⟨owns_base M4.row (Nat.zero_le _), fun a ha => by cases ha; exact .inr ⟨ownBlock_ge M4.row g3 rfl, M4.lt⟩⟩ Hmo.out rfl rfl rfl rfl rfl
          have e1 : (more s.e bs).pk.length = n + 1 := HLm.out
          simp only [e1] at hst
          exact ⟨_, _, _, by rw [hwa.out, hwc.out]; rfl, by rw [hwl.out]; exact hst.1, hst.2.1, hst.2.2⟩
    | true =>
      cases od with
      | false =>
        have hst : stand (P.map Xe.e) s.e.ip now = 3 := by unfold stand; rw [hlk]; simp [hkn, hod]
        have hwa : Hid (waitA (P.map Xe.e) s.e.ip now = false) := Lib.hid (by unfold waitA; rw [hst]; rfl)
        have hwc : Hid (waitC (P.map Xe.e) s.e.ip now = 8) := Lib.hid (by unfold waitC; rw [hst]; rfl)
        have hwl : Hid (waitL (P.map Xe.e) s.e.ip now bs = P.map Xe.e) := Lib.hid (by unfold waitL; rw [hst]; rfl)
        clear hst hod hlk HC
        obtain ⟨c0, c1, c2, c3, c4, c5, c6, c7, c8, c9, c10⟩ := HX.out
        rw [hkn] at c1
        unfold Xe.val Xe.arr at XO
        rw [hkn] at XO
        clear hkn
        go_enter Try.func12, Try.ntmps12
        go_wp2_with (first
          | (go_at_call 26; (with_reducible refine X.out.mono ?_); rintro e w2 ⟨rfl, hw2⟩; subst w2)
          | (go_at_call 27; (with_reducible refine (XO.out _).mono ?_); rintro e w3 ⟨rfl, h1⟩; (have H3 := Lib.hid h1); clear h1))
        go_ret2
        exact ⟨_, _, _, by rw [hwa.out, hwc.out]; rfl, by rw [hwl.out], HH.out.below H3.out, Did.of_below H3.out⟩
      | true =>
        have hst : stand (P.map Xe.e) s.e.ip now = 1 := by unfold stand; rw [hlk]; simp [hkn, hod]
        have hNC : Hid ((room (delL (P.map Xe.e) s.e.ip) = none → waitA (P.map Xe.e) s.e.ip now = false ∧ waitC (P.map Xe.e) s.e.ip now = 5 ∧ waitL (P.map Xe.e) s.e.ip now bs = delL (P.map Xe.e) s.e.ip) ∧ ∀ L2, room (delL (P.map Xe.e) s.e.ip) = some L2 → waitA (P.map Xe.e) s.e.ip now = true ∧ waitC (P.map Xe.e) s.e.ip now = 0 ∧ waitL (P.map Xe.e) s.e.ip now bs = putL L2 (asks1 s.e.ip now bs)) :=
          Lib.hid (new_parts (by unfold waitA; rw [if_neg (by rw [hst]; omega), if_pos hst]) (by unfold waitC; rw [if_neg (by rw [hst]; omega), if_pos hst]) (by unfold waitL; rw [if_neg (by rw [hst]; omega), if_pos hst]))
        clear hst hod hlk HC
        obtain ⟨c0, c1, c2, c3, c4, c5, c6, c7, c8, c9, c10⟩ := HX.out
        rw [hkn] at c1
        unfold Xe.val Xe.arr at XO
        rw [hkn] at XO
        clear hkn
        go_enter Try.func12, Try.ntmps12
        go_upto_region 10 with (first
          | (go_at_call 26; (with_reducible refine X.out.mono ?_); rintro e w2 ⟨rfl, hw2⟩; subst w2)
          | (go_at_call 27; (with_reducible refine (XO.out _).mono ?_); rintro e w3 ⟨rfl, h1⟩; (have H3 := Lib.hid h1); clear h1))
        clear c0 c1 c2 c3 c4 c5 c6 c7 c8 c9 c10 X XO hp
        have XC := Lib.hid (rcut_any P k hkl p F _ w3 (HH.out.below H3.out))
        go_upto_region 11 with (go_at_call 28; (with_reducible refine XC.out.mono ?_); rintro e w5 ⟨v5, F5, rfl, hR5, hD5⟩; (have R5 := Lib.hid hR5); (have D5 := Lib.hid hD5); clear hR5 hD5)
        clear XC
        obtain ⟨P5, hP5⟩ : ∃ P5, P.take k ++ P.drop (k + 1) = P5 := ⟨_, rfl⟩
        have Hno : Hid (∀ y ∈ P5, ¬ y.e.ip = s.e.ip) := Lib.hid (fun y hy he => by
          have h1 : y.e ∈ delL (P.map Xe.e) s.e.ip := by rw [← HDX.out, hP5]; exact List.mem_map.2 ⟨y, hy, rfl⟩
          exact ((mem_del _ _).1 h1).2 he)
        rw [hP5] at R5 HDX
        rw [← HDX.out] at hNC
        clear hP5
        have XR := Lib.hid (rroom_any P5 p F5 v5 w5 R5.out)
        cases hr : room (P5.map Xe.e) with
        | none =>
          unfold RRoomAt at XR
          rw [hr] at XR
          have hwc2 := Lib.hid (hNC.out.1 hr)
          clear hr
          go_wp2_with (go_at_call 29; (with_reducible refine XR.out.mono ?_); rintro e w6 ⟨v6, F6, P6, rfl, hm, _, _, hR6, hD6⟩; (have R6 := Lib.hid hR6); (have D6 := Lib.hid hD6); (have M6 := Lib.hid hm); clear hR6 hD6 hm)
          go_ret2
          exact ⟨_, _, _, by rw [hwc2.out.1, hwc2.out.2.1]; rfl, by rw [hwc2.out.2.2, M6.out]; rfl, R6.out, ((Did.of_below H3.out).trans D5.out).trans D6.out⟩
        | some L' =>
          unfold RRoomAt at XR
          rw [hr] at XR
          have hwc2 := Lib.hid (hNC.out.2 L' hr)
          clear hr
          go_upto_region 14 with (go_at_call 29; (with_reducible refine XR.out.mono ?_); rintro e w6 ⟨v6, F6, P6, rfl, hm, hs6, hl6, hR6, hD6⟩; (have R6 := Lib.hid hR6); (have D6 := Lib.hid hD6); (have M6 := Lib.hid hm); (have S6 := Lib.hid hs6); (have L6 := Lib.hid hl6); clear hR6 hD6 hm hs6 hl6)
          have B7 := Lib.hid (show Below w6.heap.size w6 (w6.alloc (.cells #[.string (txt bs)] 9)) from (Below.refl _ w6).alloc (Nat.le_refl _) _)
          have XP : Hid (Calls Try.prog 30 #[.pointer (some ⟨p, 0, none⟩), .agg #[.int .u32 s.e.ip, .bool false, .int .u8 0, .int .u8 0, .int .u8 0, .int .u8 0, .int .u8 0, .int .u8 0, .int .u64 now, .int .i64 1, .slice (some ⟨w6.heap.size, 0, none⟩) 1 1]] (w6.alloc (.cells #[.string (txt bs)] 9)) (PutAt P6 ⟨asks1 s.e.ip now bs, some ⟨w6.heap.size, 0, none⟩, 1⟩ p (Nw w6 (w6.alloc (.cells #[.string (txt bs)] 9)) F6) (w6.alloc (.cells #[.string (txt bs)] 9)))) :=
            Lib.hid (rput_any P6 ⟨asks1 s.e.ip now bs, some ⟨w6.heap.size, 0, none⟩, 1⟩ HK.out (no_map Hno.out S6.out) (L6.out rfl) p _ v6 _ (R6.out.nw B7.out) (asks_row w6 F6 bs))
          clear XR
          go_wp2_with (go_at_call 30; (with_reducible refine XP.out.mono ?_); rintro e w8 ⟨v8, F8, P8, rfl, hm, hR8, hD8⟩; (have R8 := Lib.hid hR8); (have D8 := Lib.hid hD8); (have M8 := Lib.hid hm); clear hR8 hD8 hm)
          go_ret2
          exact ⟨_, _, _, by rw [hwc2.out.1, hwc2.out.2.1]; rfl, by rw [hwc2.out.2.2, M8.out, M6.out]; rfl, R8.out, ((((Did.of_below H3.out).trans D5.out).trans D6.out).trans (Nw.did B7.out)).trans D8.out⟩
theorem Rc.wait_len {w : World} {p : Nat} {F : Nat → Prop} {v : Value} {P : List Xe} (h : Rc w p F v P) : ∃ A c, v = .slice A P.length c := by
  obtain ⟨A, c, e, _⟩ := h.open
  exact ⟨A, c, e⟩
end Go.Proofs.Ytfeipeninmclkaa
