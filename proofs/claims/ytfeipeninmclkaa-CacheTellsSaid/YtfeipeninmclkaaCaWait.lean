/-
  What is proved: (*cache.Cache).Wait by contract.
  Conditions: the numbers fit their types; the packet has at most 2^47 bytes.
-/
import Derived.Test.YtfeipeninmclkaaCaQueue
namespace Go.Proofs.Ytfeipeninmclkaa
open Go.RowKit

theorem Tab.fresh {w w4 : World} {p b : Nat} {F : Nat → Prop} {rep : Rep} {L : List En} (T : Tab w p b F rep none L) (hB : Below w.heap.size w w4) {pv : Value} {x : List UInt8} (hp : w4.ownsRow w.heap.size 5 1 pv x.length (x.map B8)) :
    Tab (w4.alloc (.cells #[pv] 35)) p b (plus F w (w4.alloc (.cells #[pv] 35))) rep none L ∧ RowOk (w4.alloc (.cells #[pv] 35)) (plus F w (w4.alloc (.cells #[pv] 35))) (w4.heap.size, 1) [x] [pv] ∧ ∀ f ∈ L, f.pk ≠ [] → (rep f.ip).1 ≠ w4.heap.size := by
  have hs := hB.size
  have hz : (w4.alloc (.cells #[pv] 35)).heap.size = w4.heap.size + 1 := by simp
  have hpl : ∀ k, plus F w (w4.alloc (.cells #[pv] 35)) k → k < (w4.alloc (.cells #[pv] 35)).heap.size := fun k hk => by
    rcases hk with h | ⟨_, h⟩
    · have := T.flt k h; omega
    · exact h
  refine ⟨((T.below hB).alloc _).wide (fun k hk => .inl hk) hpl, ⟨⟨by simp, .inr ⟨w4.heap.size, 1, #[pv], rfl, Nat.zero_le _, heap_alloc_new w4 _, Nat.le_refl _, by simp [maxLen], by simp, by simp⟩⟩, .inr ⟨hs, by show w4.heap.size < _; omega⟩, fun i v y e1 e2 => ?_⟩, fun f hf hfn heq => by have := T.flt _ (T.home f hf hfn); omega⟩
  have hi : i = 0 := by
    have := (List.getElem?_eq_some_iff.1 e1).1
    simp at this
    omega
  subst hi
  simp at e1 e2
  subst e1 e2
  exact ⟨(owns_zero hp).alloc _, fun g hg => by have := hp.lt g hg; exact .inr ⟨this.1, by omega⟩⟩
theorem Did.fresh {w w' : World} {F : Nat → Prop} (h : Below w.heap.size w w') : Did w w' F (plus F w w') :=
  ⟨h.os, h.tape, h.output, h.size, fun k hk _ => h.block k hk, fun k hk => by rcases hk with h1 | ⟨h1, _⟩ <;> simp [h1]⟩
theorem asks_raw (ip now : Int) (x : List UInt8) (q : Nat × Nat) : (asks1 ip now x).raw q = ⟨false, ⟨0, 0, 0, 0, 0, 0⟩, now, 1, some (q.1, 1, q.2)⟩ := by simp [En.raw, asks1, Mc.zero]
theorem put_31 {L : List En} {e : En} (hs : Srt L) (h : L.length < 32) : (putL L e).length ≤ 32 := by have := put_len hs e; omega
theorem asks_ok {ip now : Int} {x : List UInt8} (hip : U32 ip) (hn : U64 now) : (asks1 ip now x).Ok := ⟨hip, hn, (show (0 : Int) ≤ 1 by omega), (show (1 : Int) ≤ 3 by omega), (by simp [asks1]), (fun h => by cases h), fun _ => by simp [asks1]⟩
/-- What the end of Wait leaves: one more entry, if there is room. -/
def NewAt (L : List En) (ip now : Int) (x : List UInt8) (p : Nat) (F : Nat → Prop) (w : World) (e : Ending) (w' : World) : Prop :=
  ∃ F', e = .returned (.tuple #[.bool (newA L), .int .i64 (newC L)]) ∧ Ca w' p F' (newL L ip now x) ∧ Did w w' F F'
def WaitAt (L : List En) (ip now : Int) (x : List UInt8) (p : Nat) (F : Nat → Prop) (w : World) (e : Ending) (w' : World) : Prop :=
  ∃ F', e = .returned (.tuple #[.bool (waitA L ip now), .int .i64 (waitC L ip now)]) ∧ Ca w' p F' (waitL L ip now x) ∧ Did w w' F F' ∧ (stand L ip now = 3 → Below w.heap.size w w')

set_option maxRecDepth 100000 in
set_option maxHeartbeats 4000000 in
theorem wait_any (L : List En) (ip now : Int) (hip : U32 ip) (hn : U64 now) (u : Value) (x : List UInt8) (hbig : x.length ≤ 140737488355328) (p b : Nat) (F : Nat → Prop) (rep : Rep) (w : World) (h : Tab w p b F rep none L) (hu : Rd w u x) :
    Calls Try.prog 11 #[.pointer (some ⟨p, 0, none⟩), .int .u32 ip, u, .int .u64 now] w (WaitAt L ip now x p F w) := by
  have HTa := Lib.hid h
  have HU := Lib.hid hu
  have HI := Lib.hid (And.intro hip hn)
  have X := Lib.hid (standing_any L ip now hip hn p b F rep none w h)
  obtain ⟨s, hs⟩ : ∃ s, stand L ip now = s := ⟨_, rfl⟩
  rw [hs] at X
  have Hs := Lib.hid hs
  have hcase : s = 0 ∨ s = 1 ∨ s = 2 ∨ s = 3 := by
    rw [← hs]
    unfold stand
    cases look L ip with
    | none => exact .inl rfl
    | some e =>
      simp only
      cases e.kn
      · exact .inr (.inr (.inl rfl))
      · cases old e now
        · exact .inr (.inr (.inr rfl))
        · exact .inr (.inl rfl)
  clear h hu hip hn hs
  rcases hcase with rfl | rfl | rfl | rfl
  · go_enter Try.func11, Try.ntmps11
    go_upto_region 9 with (go_at_call 22; (with_reducible refine X.out.mono ?_); rintro e1 w2 ⟨rfl, h1⟩; (have H1 := Lib.hid h1); clear h1)
    have HT2 := Lib.hid (HTa.out.below H1.out)
    have HU2 := Lib.hid (HU.out.below H1.out)
    have HD2 := Lib.hid (Did.of_below (F := F) H1.out)

    have Z := Lib.hid (room_any L p b F rep w2 HT2.out)
    obtain ⟨rm, hrm⟩ : ∃ rm, room L = rm := ⟨_, rfl⟩
    have HRm := Lib.hid hrm
    unfold RoomAt at Z
    rw [hrm] at Z
    clear hrm
    cases rm with
    | none =>
      go_wp2_with (go_at_call 24; (with_reducible refine Z.out.mono ?_); rintro e3 w3 ⟨rfl, hT3, hC3, hD3⟩; (have HC3 := Lib.hid hC3); clear hC3; (have HT3 := Lib.hid hT3); (have HD3 := Lib.hid hD3); clear hT3 hD3)
      go_ret2
      refine ⟨F, ?_, ?_, HD2.out.trans HD3.out, fun h => by rw [Hs.out] at h; simp at h⟩
      · unfold waitA waitC newA newC
        rw [Hs.out]
        simp only [HRm.out]
        rfl
      · unfold waitL newL
        rw [Hs.out]
        simp only [HRm.out]
        exact ⟨b, rep, HT3.out⟩
    | some L' =>
      go_upto_region 11 with (go_at_call 24; (with_reducible refine Z.out.mono ?_); rintro e3 w3 ⟨rfl, hT3, hC3, hD3⟩; (have HC3 := Lib.hid hC3); clear hC3; (have HT3 := Lib.hid hT3); (have HD3 := Lib.hid hD3); clear hT3 hD3)
      change Hid (Tab _ _ _ _ _ _ L') at HT3
      have HU3 : Hid (Rd w3 u x) := Lib.hid (HU2.out.keep fun a v h => HC3.out a _ h)
      have hL31 := room_len HT2.out.srt HT2.out.few HRm.out
      have HL31 := Lib.hid hL31
      clear hL31 Z X
      have HB3 := below_drew w3
      have XC := Lib.hid (clone_any u x (World.drew w3) (HU3.out.below HB3) hbig)
      have KS : Hid (∀ W', Below w3.heap.size w3 W' → W'.cell? ⟨p, 0, none⟩ = some (.map (some b))) := Lib.hid (fun W' hW => (HT3.out.below hW).cell)
      have HT3d : Hid (Tab (World.drew w3) p b F rep none L') := Lib.hid (HT3.out.drewN 1)
      go_region_held_law (fun W' => W'.cell? ⟨p, 0, none⟩ = some (.map (some b)))
        (first | assumption | exact KS.out _ (below_drew w3) | exact KS4 | exact KS5 | exact KS6)
        (first | (go_at_call 25; (with_reducible refine XC.out.mono ?_); rintro e4 w4 ⟨pv, rfl, h41, h42⟩; obtain ⟨pA, pn, pc, rfl⟩ := owns_slice h41; obtain ⟨hTf, hRf, hAf⟩ := HT3d.out.fresh h42 h41; obtain ⟨w6, hr6, hT6, hm6⟩ := hTf.store (e := asks1 ip now x) (.inl rfl) (asks_ok HI.out.1 HI.out.2) (put_31 HT3.out.srt HL31.out) (w4.heap.size, 1) (fun _ => ⟨_, hRf⟩) (fun _ f hf _ hfn => hAf f hf hfn); rw [asks_raw] at hr6; change Sem.run _ (Instr.mapUpdate _ _ (.int .u32 ip) (.agg #[.bool false, .int .u8 0, .int .u8 0, .int .u8 0, .int .u8 0, .int .u8 0, .int .u8 0, .int .u64 now, .int .i64 1, .slice (some ⟨w4.heap.size, 0, none⟩) 1 1])) _ = _ at hr6; (have HT6 := Lib.hid hT6); (have HM6 := Lib.hid hm6); (have H42 := Lib.hid h42); (have KS4 := KS.out w4 (below_to (below_drew w3) h42 (below_drew w3).size)); (have KS5 := KS.out _ (below_al (below_to (below_drew w3) h42 (below_drew w3).size) (.cells #[.slice pA pn pc] 35))); (have KS6 := turned_cell HM6.out KS5); clear hTf hRf hAf hT6 hm6 h41 h42))
      all_goals
        clear KS XC
        go_wp2_with fail
        go_ret2
        refine ⟨plus F (World.drew w3) (w4.alloc (.cells #[.slice pA pn pc] 35)), ?_, ?_, (((HD2.out.trans HD3.out).trans (Did.of_below (below_drew w3))).trans (Did.fresh (below_al H42.out _))).trans (Did.turned HM6.out (.inl HT3.out.fb)), fun h => by rw [Hs.out] at h; simp at h⟩
        · unfold waitA waitC newA newC
          rw [Hs.out]
          simp only [HRm.out]
          rfl
        · unfold waitL newL
          rw [Hs.out]
          simp only [HRm.out]
          exact ⟨b, _, HT6.out⟩
  · go_enter Try.func11, Try.ntmps11
    go_upto_region 8 with (go_at_call 22; (with_reducible refine X.out.mono ?_); rintro e1 w1 ⟨rfl, h1⟩; (have H1 := Lib.hid h1); clear h1)
    have HT1 := Lib.hid (HTa.out.below H1.out)
    obtain ⟨w2, hr2, hT2, hm2⟩ := HT1.out.drop HI.out.1 0
    have HT2 := Lib.hid hT2
    have HM2 := Lib.hid hm2
    have HU2 : Hid (Rd w2 u x) := Lib.hid ((HU.out.below H1.out).keep fun a v h => turned_cell HM2.out h)
    have HD2 := Lib.hid ((Did.of_below (F := F) H1.out).trans (Did.turned HM2.out HTa.out.fb))
    have hp := HT1.out.cell
    clear hT2 hm2
    go_upto_region 9 with fail
    clear hr2 hp

    have Z := Lib.hid (room_any (delL L ip) p b F rep w2 HT2.out)
    obtain ⟨rm, hrm⟩ : ∃ rm, room (delL L ip) = rm := ⟨_, rfl⟩
    have HRm := Lib.hid hrm
    unfold RoomAt at Z
    rw [hrm] at Z
    clear hrm
    cases rm with
    | none =>
      go_wp2_with (go_at_call 24; (with_reducible refine Z.out.mono ?_); rintro e3 w3 ⟨rfl, hT3, hC3, hD3⟩; (have HC3 := Lib.hid hC3); clear hC3; (have HT3 := Lib.hid hT3); (have HD3 := Lib.hid hD3); clear hT3 hD3)
      go_ret2
      refine ⟨F, ?_, ?_, HD2.out.trans HD3.out, fun h => by rw [Hs.out] at h; simp at h⟩
      · unfold waitA waitC newA newC
        rw [Hs.out]
        simp only [HRm.out]
        rfl
      · unfold waitL newL
        rw [Hs.out]
        simp only [HRm.out]
        exact ⟨b, rep, HT3.out⟩
    | some L' =>
      go_upto_region 11 with (go_at_call 24; (with_reducible refine Z.out.mono ?_); rintro e3 w3 ⟨rfl, hT3, hC3, hD3⟩; (have HC3 := Lib.hid hC3); clear hC3; (have HT3 := Lib.hid hT3); (have HD3 := Lib.hid hD3); clear hT3 hD3)
      change Hid (Tab _ _ _ _ _ _ L') at HT3
      have HU3 : Hid (Rd w3 u x) := Lib.hid (HU2.out.keep fun a v h => HC3.out a _ h)
      have hL31 := room_len HT2.out.srt HT2.out.few HRm.out
      have HL31 := Lib.hid hL31
      clear hL31 Z X
      have HB3 := below_drew w3
      have XC := Lib.hid (clone_any u x (World.drew w3) (HU3.out.below HB3) hbig)
      have KS : Hid (∀ W', Below w3.heap.size w3 W' → W'.cell? ⟨p, 0, none⟩ = some (.map (some b))) := Lib.hid (fun W' hW => (HT3.out.below hW).cell)
      have HT3d : Hid (Tab (World.drew w3) p b F rep none L') := Lib.hid (HT3.out.drewN 1)
      go_region_held_law (fun W' => W'.cell? ⟨p, 0, none⟩ = some (.map (some b)))
        (first | assumption | exact KS.out _ (below_drew w3) | exact KS4 | exact KS5 | exact KS6)
        (first | (go_at_call 25; (with_reducible refine XC.out.mono ?_); rintro e4 w4 ⟨pv, rfl, h41, h42⟩; obtain ⟨pA, pn, pc, rfl⟩ := owns_slice h41; obtain ⟨hTf, hRf, hAf⟩ := HT3d.out.fresh h42 h41; obtain ⟨w6, hr6, hT6, hm6⟩ := hTf.store (e := asks1 ip now x) (.inl rfl) (asks_ok HI.out.1 HI.out.2) (put_31 HT3.out.srt HL31.out) (w4.heap.size, 1) (fun _ => ⟨_, hRf⟩) (fun _ f hf _ hfn => hAf f hf hfn); rw [asks_raw] at hr6; change Sem.run _ (Instr.mapUpdate _ _ (.int .u32 ip) (.agg #[.bool false, .int .u8 0, .int .u8 0, .int .u8 0, .int .u8 0, .int .u8 0, .int .u8 0, .int .u64 now, .int .i64 1, .slice (some ⟨w4.heap.size, 0, none⟩) 1 1])) _ = _ at hr6; (have HT6 := Lib.hid hT6); (have HM6 := Lib.hid hm6); (have H42 := Lib.hid h42); (have KS4 := KS.out w4 (below_to (below_drew w3) h42 (below_drew w3).size)); (have KS5 := KS.out _ (below_al (below_to (below_drew w3) h42 (below_drew w3).size) (.cells #[.slice pA pn pc] 35))); (have KS6 := turned_cell HM6.out KS5); clear hTf hRf hAf hT6 hm6 h41 h42))
      all_goals
        clear KS XC
        go_wp2_with fail
        go_ret2
        refine ⟨plus F (World.drew w3) (w4.alloc (.cells #[.slice pA pn pc] 35)), ?_, ?_, (((HD2.out.trans HD3.out).trans (Did.of_below (below_drew w3))).trans (Did.fresh (below_al H42.out _))).trans (Did.turned HM6.out (.inl HT3.out.fb)), fun h => by rw [Hs.out] at h; simp at h⟩
        · unfold waitA waitC newA newC
          rw [Hs.out]
          simp only [HRm.out]
          rfl
        · unfold waitL newL
          rw [Hs.out]
          simp only [HRm.out]
          exact ⟨b, _, HT6.out⟩
  · have h2 := Hs.out
    obtain ⟨e, hlk, hkn⟩ : ∃ e, look L ip = some e ∧ e.kn = false := by
      unfold stand at h2
      cases hl : look L ip with
      | none => rw [hl] at h2; simp at h2
      | some e =>
        rw [hl] at h2
        refine ⟨e, rfl, ?_⟩
        cases hk : e.kn with
        | false => rfl
        | true =>
          simp only [hk, if_true] at h2
          split at h2 <;> omega
    have Y := Lib.hid (fun W (hW : Below w.heap.size w W) => queue_any L ip e hlk hkn u x hbig p b F rep W (HTa.out.below hW) (HU.out.below hW))
    clear h2 hlk hkn
    go_enter Try.func11, Try.ntmps11
    go_wp2_with (first
      | (go_at_call 22; (with_reducible refine X.out.mono ?_); rintro e1 w1 ⟨rfl, h1⟩; (have H1 := Lib.hid h1); clear h1)
      | (go_at_call 23; (with_reducible refine (Y.out _ H1.out).mono ?_); rintro e2 w2 ⟨F2, rfl, h2, h3⟩; (have H2 := Lib.hid h2); (have H3 := Lib.hid h3); clear h2 h3))
    go_ret2
    refine ⟨F2, ?_, ?_, (Did.of_below H1.out).trans H3.out, fun h => by rw [Hs.out] at h; simp at h⟩
    · unfold waitA waitC
      rw [Hs.out]
      rfl
    · unfold waitL
      rw [Hs.out]
      exact H2.out
  · go_enter Try.func11, Try.ntmps11
    go_wp2_with (go_at_call 22; (with_reducible refine X.out.mono ?_); rintro e1 w1 ⟨rfl, h1⟩; (have H1 := Lib.hid h1); clear h1)
    go_ret2
    refine ⟨F, ?_, ?_, Did.of_below H1.out, fun _ => H1.out⟩
    · unfold waitA waitC
      rw [Hs.out]
      rfl
    · unfold waitL
      rw [Hs.out]
      exact ⟨b, rep, HTa.out.below H1.out⟩
end Go.Proofs.Ytfeipeninmclkaa
