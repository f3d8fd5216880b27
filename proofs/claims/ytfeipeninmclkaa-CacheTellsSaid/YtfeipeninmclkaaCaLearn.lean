/-
  What is proved: (*cache.Cache).Learn by contract.
  Conditions: the numbers fit their types.
-/
import Derived.Test.YtfeipeninmclkaaCaRoom
namespace Go.Proofs.Ytfeipeninmclkaa
open Go.RowKit

theorem room_len {L L' : List En} (hs : Srt L) (h32 : L.length ≤ 32) (h : room L = some L') : L'.length < 32 := by
  unfold room at h
  split at h
  · cases h; assumption
  · cases hl : lst L with
    | none => rw [hl] at h; cases h
    | some v =>
      rw [hl] at h
      simp only [Option.map_some, Option.some.injEq] at h
      subst h
      have := length_del hs v.ip
      rw [look_mem hs (lst_mem hl) rfl] at this
      simp at this
      omega
theorem room_srt {L L' : List En} (hs : Srt L) (h : room L = some L') : Srt L' := by
  unfold room at h
  split at h
  · cases h; exact hs
  · cases hl : lst L with
    | none => rw [hl] at h; cases h
    | some v =>
      rw [hl] at h
      simp only [Option.map_some, Option.some.injEq] at h
      subst h
      exact srt_del hs _
theorem put_len {L : List En} (hs : Srt L) (e : En) : (putL L e).length ≤ L.length + 1 := by
  rw [length_put hs]
  split <;> omega
theorem known_ok {ip now : Int} {m : Mc} (hip : U32 ip) (hn : U64 now) : (known ip m now).Ok := ⟨hip, hn, (show (0 : Int) ≤ 0 by omega), (show (0 : Int) ≤ 3 by omega), (by simp [known]), (fun _ => rfl), fun h => by cases h⟩
/-- The packets that are told. -/
def Pks (w : World) (F : Nat → Prop) (sv : Value) (pk : List (List UInt8)) : Prop :=
  (pk = [] ∧ sv = .slice none 0 0) ∨ ∃ q vs, pk ≠ [] ∧ sv = .slice (some ⟨q.1, 0, none⟩) pk.length q.2 ∧ RowOk w F q pk vs
theorem Pks.at {w w' : World} {F : Nat → Prop} {sv : Value} {pk : List (List UInt8)} (h : Pks w F sv pk) (hk : ∀ k, F k → ¬ (∃ es c, w.heap[k]? = some (.map es c)) → w'.heap[k]? = w.heap[k]?) : Pks w' F sv pk := by
  rcases h with h | ⟨q, vs, h1, h2, h3⟩
  · exact .inl h
  · refine .inr ⟨q, vs, h1, h2, ?_⟩
    obtain ⟨cur, hcur, _⟩ := h3.block
    refine ⟨owns_at h3.row (fun g hg => by cases hg; exact hk _ h3.own (fun ⟨es, c, he⟩ => by rw [hcur] at he; cases he)), h3.own, fun i v x e1 e2 => ?_⟩
    have hp := h3.pks i v x e1 e2
    refine ⟨owns_at hp.row (fun g hg => hk g (hp.own g hg) (fun ⟨es, c, he⟩ => ?_)), hp.own⟩
    rcases hp.row.2 with ⟨hv1, _⟩ | ⟨g', cap, cu, hv1, _, hg', _⟩
    · rw [hv1] at hg
      cases hg
    · rw [hv1] at hg
      cases hg
      rw [he] at hg'
      cases hg'
theorem Pks.below {w w' : World} {F : Nat → Prop} {sv : Value} {pk : List (List UInt8)} (h : Pks w F sv pk) (hF : ∀ k, F k → k < w.heap.size) (hb : Below w.heap.size w w') : Pks w' F sv pk :=
  h.at fun k hk _ => hb.block k (hF k hk)
theorem Pks.turned {w w' : World} {F : Nat → Prop} {sv : Value} {pk : List (List UInt8)} {b : Nat} (h : Pks w F sv pk) (hF : ∀ k, F k → k < w.heap.size) (hb : w.mapTurned w' b) : Pks w' F sv pk :=
  h.at fun k hk hn => hb.grown.block k (hF k hk) (fun e => hn (by
    cases e
    obtain ⟨es, clock, es', clock', hb', _⟩ := hb
    exact ⟨es, clock, hb'⟩))
theorem raw_pks {w : World} {p b : Nat} {F : Nat → Prop} {rep : Rep} {L : List En} (h : Tab w p b F rep none L) {e : En} (he : e ∈ L) : Pks w F (slv (e.raw (rep e.ip)).sl) e.pk := by
  unfold En.raw
  by_cases hn : e.pk = []
  · simp only [hn, if_true]
    exact .inl ⟨rfl, rfl⟩
  · simp only [hn, if_false]
    obtain ⟨vs, hv⟩ := h.rows e he (by simp) hn
    exact .inr ⟨_, vs, hn, rfl, hv⟩
def LearnAt (L : List En) (ip : Int) (m : Mc) (now : Int) (p : Nat) (F : Nat → Prop) (w : World) (e : Ending) (w' : World) : Prop :=
  ∃ sv, e = .returned (.tuple #[sv, .int .i64 (learnC L ip)]) ∧ Pks w' F sv (learnP L ip) ∧ Ca w' p F (learnL L ip m now) ∧ Did w w' F F
theorem mac_one (a b c d e f : Int) : (#[Value.int .u8 a, .int .u8 b, .int .u8 c, .int .u8 d, .int .u8 e, .int .u8 f] : Array Value).all (·.oneCell') = true := by simp [Value.oneCell']

set_option maxRecDepth 100000 in
set_option maxHeartbeats 4000000 in
theorem learn_any (L : List En) (ip : Int) (m : Mc) (now : Int) (hip : U32 ip) (hn : U64 now) (p b : Nat) (F : Nat → Prop) (rep : Rep) (w : World) (h : Tab w p b F rep none L) :
    Calls Try.prog 13 #[.pointer (some ⟨p, 0, none⟩), .int .u32 ip, m.val, .int .u64 now] w (LearnAt L ip m now p F w) := by
  have HT := Lib.hid h
  have HI := Lib.hid (And.intro hip hn)
  have Hok := Lib.hid (known_ok (m := m) hip hn)
  obtain ⟨Kn, hKn⟩ : ∃ e, known ip m now = e := ⟨_, rfl⟩
  have HKe := Lib.hid hKn
  rw [hKn] at Hok
  obtain ⟨r, hr⟩ : ∃ r, got L rep ip = r := ⟨_, rfl⟩
  obtain ⟨is, his⟩ : ∃ is : Bool, (look L ip).isSome = is := ⟨_, rfl⟩
  have Hr := Lib.hid hr
  have His := Lib.hid his
  obtain ⟨m1, m2, m3, m4, m5, m6⟩ := m
  unfold Mc.val
  simp only
  have HB := Lib.hid ((Below.refl _ w).alloc (Nat.le_refl _) (.cells #[.int .u8 m1, .int .u8 m2, .int .u8 m3, .int .u8 m4, .int .u8 m5, .int .u8 m6] 34))
  have HMa := Lib.hid (heap_alloc_new w (.cells #[.int .u8 m1, .int .u8 m2, .int .u8 m3, .int .u8 m4, .int .u8 m5, .int .u8 m6] 34))
  have hz0 : w.heap.size < (w.alloc (.cells #[.int .u8 m1, .int .u8 m2, .int .u8 m3, .int .u8 m4, .int .u8 m5, .int .u8 m6] 34)).heap.size := by simp
  clear h hip hn hKn hr his
  go_enter Try.func13, Try.ntmps13
  go_upto_region 1 with fail
  generalize w.alloc (.cells #[.int .u8 m1, .int .u8 m2, .int .u8 m3, .int .u8 m4, .int .u8 m5, .int .u8 m6] 34) = w1 at HB HMa hz0 ⊢
  obtain ⟨B, hBe⟩ : ∃ B, w.heap.size = B := ⟨_, rfl⟩
  rw [hBe] at HMa hz0 ⊢
  have HBe := Lib.hid hBe
  clear hBe
  have HT1 := Lib.hid (HT.out.below HB.out)
  have hl := HT1.out.asked HI.out.1 true
  rw [Hr.out, His.out] at hl
  simp only [if_true] at hl
  have hp := HT1.out.cell
  have HA := RAt.new w1 r
  have HB2 := Lib.hid ((Below.refl _ w1).alloc (Nat.le_refl _) r.obj)
  have HSL : Hid (∀ T, slv r.sl = T → Pks w1 F T (learnP L ip)) := Lib.hid (fun T hT => by
    rw [← hT, ← Hr.out]
    unfold got learnP
    cases hlk : look L ip with
    | none => exact .inl ⟨rfl, rfl⟩
    | some e =>
      obtain ⟨h1, h2⟩ := look_some hlk
      have h3 := raw_pks HT1.out h1
      rw [h2] at h3
      exact h3)
  obtain ⟨kn, ⟨a1, a2, a3, a4, a5, a6⟩, t, tr, sl⟩ := r
  obtain ⟨c0, c1, c2, c3, c4, c5, c6, c7, c8, c9⟩ := HA
  clear c0 c1 c2 c3 c4 c5 c6 c7 c8
  unfold Raw.obj at HB2 c9
  unfold Raw.val at hl
  simp only at HB2 hl c9 HSL
  have HS1 := Lib.hid (slv_one sl)
  have HPk : Hid (Pks w1 F (slv sl) (learnP L ip)) := Lib.hid (HSL.out _ rfl)
  clear HSL Hr
  generalize slv sl = S at HB2 hl c9 HS1 HPk
  go_upto_region 2 with (refine wpList_store_row rfl 71 (.tmp 10) (.tmp 19) rfl w1.heap.size #[.bool kn, .int .u8 a1, .int .u8 a2, .int .u8 a3, .int .u8 a4, .int .u8 a5, .int .u8 a6, .int .u64 t, .int .i64 tr, S] rfl rfl 71 _ (heap_alloc_new w1 _) enSize rfl (enRow_one _ _ _ _ _ _ _ _ _ _ HS1.out) ?_; rw [setRow_alloc])
  have hz1 : w1.heap.size < (w1.alloc (.cells #[.bool kn, .int .u8 a1, .int .u8 a2, .int .u8 a3, .int .u8 a4, .int .u8 a5, .int .u8 a6, .int .u64 t, .int .i64 tr, S] 71)).heap.size := by simp
  generalize w1.alloc (.cells #[.bool kn, .int .u8 a1, .int .u8 a2, .int .u8 a3, .int .u8 a4, .int .u8 a5, .int .u8 a6, .int .u64 t, .int .i64 tr, S] 71) = w2 at HB2 c9 hz1 ⊢
  obtain ⟨G, hG⟩ : ∃ G, w1.heap.size = G := ⟨_, rfl⟩
  rw [hG] at hz1 c9 ⊢
  have HC9 := Lib.hid c9
  have HT2 := Lib.hid (HT1.out.below HB2.out)
  have HM2 := Lib.hid ((HB2.out.block B (by omega)).trans HMa.out)
  have HP2 := Lib.hid (HPk.out.below HT1.out.flt HB2.out)
  have HBw : Hid (Below w.heap.size w w2) := Lib.hid (below_to HB.out HB2.out HB.out.size)
  have HGF : Hid (¬ F G) := Lib.hid (fun hF => by have := HT1.out.flt G hF; omega)
  clear hl hp hz0 hz1 HB2 HT1 HMa HB HPk c9 hG
  cases is with
  | true =>
    have HT3 := HT2
    have HM3 := HM2
    have HP3 := HP2
    have HC3 := HC9
    have HDw := Lib.hid (Did.of_below (F := F) HBw.out)
    generalize w2 = w3 at HT3 HM3 HP3 HC3 HDw ⊢
    clear HT2 HM2 HP2 HC9 HBw
    obtain ⟨w5, hr5, hT5, hm5⟩ := (HT3.out.drewN 1).store (e := Kn) (.inl rfl) Hok.out (by rw [length_put HT3.out.srt, show Kn.ip = ip by rw [← HKe.out]; rfl, His.out]; exact HT3.out.few) (0, 0) (fun h => absurd (show Kn.pk = [] by rw [← HKe.out]; rfl) h) (fun h => absurd (show Kn.pk = [] by rw [← HKe.out]; rfl) h)
    have HT5 := Lib.hid hT5
    have HM5 := Lib.hid hm5
    have hkr : Kn.raw (0, 0) = ⟨true, ⟨m1, m2, m3, m4, m5, m6⟩, now, 0, none⟩ := by rw [← HKe.out]; rfl
    have hki : Kn.ip = ip := by rw [← HKe.out]; rfl
    rw [hkr, hki] at hr5
    unfold Raw.val at hr5
    simp only [slv] at hr5
    change Sem.run _ _ (World.drew w3) = _ at hr5
    clear hT5 hm5 hkr hki
    have KS : Hid (∀ W', Below w3.heap.size w3 W' → (fun W' => W'.cell? ⟨p, 0, none⟩ = some (.map (some b)) ∧ W'.cell? ⟨B, 0, none⟩ = some (.int .u8 m1) ∧ W'.cell? ⟨B, 1, none⟩ = some (.int .u8 m2) ∧ W'.cell? ⟨B, 2, none⟩ = some (.int .u8 m3) ∧ W'.cell? ⟨B, 3, none⟩ = some (.int .u8 m4) ∧ W'.cell? ⟨B, 4, none⟩ = some (.int .u8 m5) ∧ W'.cell? ⟨B, 5, none⟩ = some (.int .u8 m6)) W') := Lib.hid (fun W' hW => by
      have a := (HT3.out.below hW).cell
      have m := (hW.block B (Array.getElem?_eq_some_iff.1 HM3.out).1).trans HM3.out
      exact ⟨a, by simp [World.cell?, m], by simp [World.cell?, m], by simp [World.cell?, m], by simp [World.cell?, m], by simp [World.cell?, m], by simp [World.cell?, m]⟩)
    have KT : Hid ((fun W' => W'.cell? ⟨p, 0, none⟩ = some (.map (some b)) ∧ W'.cell? ⟨B, 0, none⟩ = some (.int .u8 m1) ∧ W'.cell? ⟨B, 1, none⟩ = some (.int .u8 m2) ∧ W'.cell? ⟨B, 2, none⟩ = some (.int .u8 m3) ∧ W'.cell? ⟨B, 3, none⟩ = some (.int .u8 m4) ∧ W'.cell? ⟨B, 4, none⟩ = some (.int .u8 m5) ∧ W'.cell? ⟨B, 5, none⟩ = some (.int .u8 m6)) w5) := Lib.hid (by
      obtain ⟨q0, q1, q2, q3, q4, q5, q6⟩ := KS.out _ (below_drew w3)
      exact ⟨turned_cell HM5.out q0, turned_cell HM5.out q1, turned_cell HM5.out q2, turned_cell HM5.out q3, turned_cell HM5.out q4, turned_cell HM5.out q5, turned_cell HM5.out q6⟩)
    go_upto_region 4 with fail
    go_region_held_law (fun W' => W'.cell? ⟨p, 0, none⟩ = some (.map (some b)) ∧ W'.cell? ⟨B, 0, none⟩ = some (.int .u8 m1) ∧ W'.cell? ⟨B, 1, none⟩ = some (.int .u8 m2) ∧ W'.cell? ⟨B, 2, none⟩ = some (.int .u8 m3) ∧ W'.cell? ⟨B, 3, none⟩ = some (.int .u8 m4) ∧ W'.cell? ⟨B, 4, none⟩ = some (.int .u8 m5) ∧ W'.cell? ⟨B, 5, none⟩ = some (.int .u8 m6))
      (first | assumption | exact KS.out _ (below_drew w3) | exact KT.out)
      (fail)
    all_goals
      have hc9 := turned_cell HM5.out (show (World.drewN w3 1).cell? ⟨G, 9, none⟩ = some S from HC3.out)
      clear KS KT
      go_wp2_with fail
      go_ret2
      refine ⟨S, ?_, (HP3.out.at (w' := w3.drewN 1) (fun _ _ _ => rfl)).turned (HT3.out.drewN 1).flt HM5.out, ?_, (HDw.out.trans (Did.of_below (below_drew w3))).trans (Did.turned HM5.out HT.out.fb)⟩
      · rw [show learnC L ip = 0 by unfold learnC; rw [His.out]; rfl]; rfl
      · rw [show learnL L ip ⟨m1, m2, m3, m4, m5, m6⟩ now = putL L Kn by unfold learnL; rw [His.out, ← HKe.out]; rfl]
        exact ⟨b, _, HT5.out⟩
  | false =>
    have X := Lib.hid (room_any L p b F rep w2 HT2.out)
    have HP0 : Hid (learnP L ip = []) := Lib.hid (by
      unfold learnP
      cases hlk : look L ip with
      | none => rfl
      | some e => have := His.out; rw [hlk] at this; cases this)
    obtain ⟨rm, hrm⟩ : ∃ rm, room L = rm := ⟨_, rfl⟩
    have HRm := Lib.hid hrm
    unfold RoomAt at X
    rw [hrm] at X
    clear hrm
    cases rm with
    | none =>
      go_wp2_with (go_at_call 24; (with_reducible refine X.out.mono ?_); rintro e w3 ⟨rfl, hT3, _, hD3⟩; (have HT3 := Lib.hid hT3); (have HD3 := Lib.hid hD3); clear hT3 hD3)
      go_ret2
      have e1 : learnC L ip = 5 := by unfold learnC; rw [His.out, HRm.out]; rfl
      have e2 : learnL L ip ⟨m1, m2, m3, m4, m5, m6⟩ now = L := by unfold learnL; rw [His.out, HRm.out]; rfl
      refine ⟨.slice none 0 0, ?_, .inl ⟨HP0.out, rfl⟩, ?_, (Did.of_below HBw.out).trans HD3.out⟩
      · rw [e1]; rfl
      · rw [e2]; exact ⟨b, rep, HT3.out⟩
    | some L' =>
      go_upto_if 27 with (go_at_call 24; (with_reducible refine X.out.mono ?_); rintro e w3 ⟨rfl, hT3, _, hD3⟩; (have HT3 := Lib.hid hT3); (have HD3 := Lib.hid hD3); clear hT3 hD3)
      change Hid (Tab _ _ _ _ _ _ L') at HT3
      have hBF : ¬ F B := fun hF => by have := HT.out.flt B hF; have := HBe.out; omega
      have HM3 := Lib.hid ((HD3.out.block B (Array.getElem?_eq_some_iff.1 HM2.out).1 hBF).trans HM2.out)
      have HC3 : Hid (w3.cell? ⟨G, 9, none⟩ = some S) := Lib.hid (by
        have hlt := World.block_lt_of_cell? w2 _ HC9.out
        rw [← HC9.out]
        unfold World.cell?
        rw [HD3.out.block G hlt HGF.out])
      have HP3 : Hid (Pks w3 F S (learnP L ip)) := Lib.hid (by
        rw [HP0.out]
        have h := HP2.out
        rw [HP0.out] at h
        rcases h with ⟨_, h⟩ | ⟨q, vs, h1, _⟩
        · exact .inl ⟨rfl, h⟩
        · exact absurd rfl h1)
      have HDw := Lib.hid ((Did.of_below (F := F) HBw.out).trans HD3.out)
      clear HT2 HM2 HP2 HC9 HBw X HD3
      obtain ⟨w5, hr5, hT5, hm5⟩ := (HT3.out.drewN 1).store (e := Kn) (.inl rfl) Hok.out (by have := room_len HT.out.srt HT.out.few HRm.out; have := put_len HT3.out.srt Kn; omega) (0, 0) (fun h => absurd (show Kn.pk = [] by rw [← HKe.out]; rfl) h) (fun h => absurd (show Kn.pk = [] by rw [← HKe.out]; rfl) h)
      have HT5 := Lib.hid hT5
      have HM5 := Lib.hid hm5
      have hkr : Kn.raw (0, 0) = ⟨true, ⟨m1, m2, m3, m4, m5, m6⟩, now, 0, none⟩ := by rw [← HKe.out]; rfl
      have hki : Kn.ip = ip := by rw [← HKe.out]; rfl
      rw [hkr, hki] at hr5
      unfold Raw.val at hr5
      simp only [slv] at hr5
      change Sem.run _ _ (World.drew w3) = _ at hr5
      clear hT5 hm5 hkr hki
      have KS : Hid (∀ W', Below w3.heap.size w3 W' → (fun W' => W'.cell? ⟨p, 0, none⟩ = some (.map (some b)) ∧ W'.cell? ⟨B, 0, none⟩ = some (.int .u8 m1) ∧ W'.cell? ⟨B, 1, none⟩ = some (.int .u8 m2) ∧ W'.cell? ⟨B, 2, none⟩ = some (.int .u8 m3) ∧ W'.cell? ⟨B, 3, none⟩ = some (.int .u8 m4) ∧ W'.cell? ⟨B, 4, none⟩ = some (.int .u8 m5) ∧ W'.cell? ⟨B, 5, none⟩ = some (.int .u8 m6)) W') := Lib.hid (fun W' hW => by
        have a := (HT3.out.below hW).cell
        have m := (hW.block B (Array.getElem?_eq_some_iff.1 HM3.out).1).trans HM3.out
        exact ⟨a, by simp [World.cell?, m], by simp [World.cell?, m], by simp [World.cell?, m], by simp [World.cell?, m], by simp [World.cell?, m], by simp [World.cell?, m]⟩)
      have KT : Hid ((fun W' => W'.cell? ⟨p, 0, none⟩ = some (.map (some b)) ∧ W'.cell? ⟨B, 0, none⟩ = some (.int .u8 m1) ∧ W'.cell? ⟨B, 1, none⟩ = some (.int .u8 m2) ∧ W'.cell? ⟨B, 2, none⟩ = some (.int .u8 m3) ∧ W'.cell? ⟨B, 3, none⟩ = some (.int .u8 m4) ∧ W'.cell? ⟨B, 4, none⟩ = some (.int .u8 m5) ∧ W'.cell? ⟨B, 5, none⟩ = some (.int .u8 m6)) w5) := Lib.hid (by
        obtain ⟨q0, q1, q2, q3, q4, q5, q6⟩ := KS.out _ (below_drew w3)
        exact ⟨turned_cell HM5.out q0, turned_cell HM5.out q1, turned_cell HM5.out q2, turned_cell HM5.out q3, turned_cell HM5.out q4, turned_cell HM5.out q5, turned_cell HM5.out q6⟩)
      go_upto_region 4 with fail
      go_region_held_law (fun W' => W'.cell? ⟨p, 0, none⟩ = some (.map (some b)) ∧ W'.cell? ⟨B, 0, none⟩ = some (.int .u8 m1) ∧ W'.cell? ⟨B, 1, none⟩ = some (.int .u8 m2) ∧ W'.cell? ⟨B, 2, none⟩ = some (.int .u8 m3) ∧ W'.cell? ⟨B, 3, none⟩ = some (.int .u8 m4) ∧ W'.cell? ⟨B, 4, none⟩ = some (.int .u8 m5) ∧ W'.cell? ⟨B, 5, none⟩ = some (.int .u8 m6))
        (first | assumption | exact KS.out _ (below_drew w3) | exact KT.out)
        (fail)
      all_goals
        have hc9 := turned_cell HM5.out (show (World.drewN w3 1).cell? ⟨G, 9, none⟩ = some S from HC3.out)
        clear KS KT
        go_wp2_with fail
        go_ret2
        refine ⟨S, ?_, (HP3.out.at (w' := w3.drewN 1) (fun _ _ _ => rfl)).turned (HT3.out.drewN 1).flt HM5.out, ?_, (HDw.out.trans (Did.of_below (below_drew w3))).trans (Did.turned HM5.out HT.out.fb)⟩
        · rw [show learnC L ip = 0 by unfold learnC; rw [HRm.out]; simp]; rfl
        · rw [show learnL L ip ⟨m1, m2, m3, m4, m5, m6⟩ now = putL L' Kn by unfold learnL; rw [His.out, HRm.out, ← HKe.out]; rfl]
          exact ⟨b, _, HT5.out⟩
end Go.Proofs.Ytfeipeninmclkaa
