/-
  What is proved: packets with numbers, in a cache: each is told once, or goes; a hundred ticks empty it. No program's text.
  Conditions: none.
-/
import Derived.Test.YtfeipeninmclkaaCaStep
namespace Go.Proofs.Ytfeipeninmclkaa

def pkt (n : Nat) : List UInt8 := [UInt8.ofNat n, UInt8.ofNat (n / 256)]
/-- How many packets wait. -/
def pend (L : List En) : Nat := (L.map (·.pk.length)).sum
def pkAt (L : List En) (k : Int) : Nat := match look L k with | some e => e.pk.length | none => 0
section
variable {L L' : List En} {e r : En} {ip now t k : Int} {m : Mc} {p : List UInt8}
theorem pend_nil : pend [] = 0 := rfl
theorem pend_cons : pend (e :: L) = e.pk.length + pend L := by simp [pend]
theorem pend_put (hs : Srt L) (r : En) : pend (putL L r) + pkAt L r.ip = pend L + r.pk.length := by
  induction L with
  | nil => simp [putL, pend, pkAt, look]
  | cons y l ih =>
    obtain ⟨ha, hb⟩ := List.pairwise_cons.1 hs
    unfold putL
    by_cases h1 : y.ip < r.ip
    · have hy : ¬ y.ip = r.ip := by omega
      have e : pkAt (y :: l) r.ip = pkAt l r.ip := by simp [pkAt, look, hy]
      have := ih hb
      rw [if_pos h1, e, pend_cons, pend_cons]
      omega
    · rw [if_neg h1]
      by_cases h2 : r.ip < y.ip
      · have e : look (y :: l) r.ip = none := look_none.2 fun z hz => by
          rcases List.mem_cons.1 hz with rfl | hz
          · omega
          · have := ha z hz; omega
        have e2 : pkAt (y :: l) r.ip = 0 := by unfold pkAt; rw [e]
        rw [if_pos h2, e2, pend_cons]
        omega
      · have hy : y.ip = r.ip := by omega
        have e : pkAt (y :: l) r.ip = y.pk.length := by simp [pkAt, look, hy]
        rw [if_neg h2, e, pend_cons, pend_cons]
        omega
theorem pend_del (hs : Srt L) (k : Int) : pend (delL L k) + pkAt L k = pend L := by
  induction L with
  | nil => rfl
  | cons y l ih =>
    obtain ⟨ha, hb⟩ := List.pairwise_cons.1 hs
    have i := ih hb
    by_cases hy : y.ip = k
    · have e : pkAt (y :: l) k = y.pk.length := by simp [pkAt, look, hy]
      have e2 : delL (y :: l) k = l := by
        simp only [delL, List.filter_cons, hy, decide_true, Bool.not_true, Bool.false_eq_true, if_false]
        exact List.filter_eq_self.2 fun z hz => by
          have := ha z hz
          have : ¬ z.ip = k := by omega
          simp [this]
      rw [e, e2, pend_cons]
      omega
    · have e : pkAt (y :: l) k = pkAt l k := by simp [pkAt, look, hy]
      have e2 : delL (y :: l) k = y :: delL l k := by simp [delL, hy]
      rw [e, e2, pend_cons, pend_cons]
      omega
theorem lst1_kn {acc : Option En} {b : En} (h : lst1 acc e = some b) : acc = some b ∨ b = e ∧ e.kn = true := by
  unfold lst1 at h
  cases acc with
  | none =>
    simp only at h
    split at h
    · rename_i hk
      cases h
      exact .inr ⟨rfl, hk⟩
    · cases h
  | some a =>
    simp only at h
    split at h
    · rename_i hk
      cases h
      simp at hk
      exact .inr ⟨rfl, hk.1⟩
    · exact .inl h
theorem lst_fold : ∀ (L : List En) (acc : Option En) {b : En}, L.foldl lst1 acc = some b → acc = some b ∨ b ∈ L ∧ b.kn = true
  | [], acc, b, h => .inl h
  | x :: l, acc, b, h => by
    rcases lst_fold l (lst1 acc x) h with h1 | h1
    · rcases lst1_kn h1 with h2 | ⟨rfl, h2⟩
      · exact .inl h2
      · exact .inr ⟨by simp, h2⟩
    · exact .inr ⟨List.mem_cons_of_mem _ h1.1, h1.2⟩
theorem lst_kn {b : En} (h : lst L = some b) : b ∈ L ∧ b.kn = true := by
  rcases lst_fold L none h with h1 | h1
  · cases h1
  · exact h1
theorem pend_room (hs : Srt L) (hok : ∀ e ∈ L, e.Ok) (h : room L = some L') : pend L' = pend L := by
  unfold room at h
  split at h
  · cases h; rfl
  · cases hl : lst L with
    | none => rw [hl] at h; cases h
    | some b =>
      rw [hl] at h
      cases h
      obtain ⟨h1, h2⟩ := lst_kn hl
      have h3 := pend_del hs b.ip
      have h4 : pkAt L b.ip = 0 := by
        unfold pkAt
        rw [look_mem hs h1 rfl]
        simp [(hok b h1).kn h2]
      show pend (delL L b.ip) = pend L
      omega
theorem room_none (hs : Srt L) (h : room L = some L') (hl : look L k = none) : look L' k = none :=
  look_none.2 fun z hz => look_none.1 hl z (room_sub h z hz)
theorem pend_new (hs : Srt L) (hok : ∀ e ∈ L, e.Ok) (hl : look L ip = none) : pend (newL L ip now p) = pend L + (if newC L = 0 then 1 else 0) := by
  unfold newL newC
  cases hr : room L with
  | none => simp
  | some L' =>
    have h1 := pend_put (room_srt hs hr) (asks1 ip now p)
    have h2 : pkAt L' ip = 0 := by unfold pkAt; rw [room_none hs hr hl]
    have h3 := pend_room hs hok hr
    simp only [Option.isSome_some, if_true]
    have h4 : (asks1 ip now p).pk.length = 1 := rfl
    have h5 : (asks1 ip now p).ip = ip := rfl
    rw [h5] at h1
    omega
theorem stand_cases (L : List En) (ip now : Int) : (look L ip = none ∧ stand L ip now = 0) ∨ (∃ e, look L ip = some e ∧ e.kn = true ∧ stand L ip now = 1) ∨ (∃ e, look L ip = some e ∧ e.kn = false ∧ stand L ip now = 2) ∨ (∃ e, look L ip = some e ∧ e.kn = true ∧ stand L ip now = 3) := by
  unfold stand
  cases hl : look L ip with
  | none => exact .inl ⟨rfl, rfl⟩
  | some e =>
    simp only
    cases hk : e.kn with
    | false => exact .inr (.inr (.inl ⟨e, rfl, hk, by simp⟩))
    | true =>
      cases ho : old e now with
      | true => exact .inr (.inl ⟨e, rfl, hk, by simp⟩)
      | false => exact .inr (.inr (.inr ⟨e, rfl, hk, by simp⟩))
theorem pend_wait (hs : Srt L) (hok : ∀ e ∈ L, e.Ok) : pend (waitL L ip now p) = pend L + (if waitC L ip now = 0 then 1 else 0) := by
  rcases stand_cases L ip now with ⟨hl, h⟩ | ⟨e, hl, hk, h⟩ | ⟨e, hl, hk, h⟩ | ⟨e, hl, hk, h⟩
  · have e1 : waitL L ip now p = newL L ip now p := by unfold waitL; rw [h]; rfl
    have e2 : waitC L ip now = newC L := by unfold waitC; rw [h]; rfl
    rw [e1, e2]
    exact pend_new hs hok hl
  · have e1 : waitL L ip now p = newL (delL L ip) ip now p := by unfold waitL; rw [h]; rfl
    have e2 : waitC L ip now = newC (delL L ip) := by unfold waitC; rw [h]; rfl
    have h1 := pend_new (p := p) (now := now) (srt_del hs ip) (fun e he => hok e (del_sub e he)) (look_del_same (L := L) ip)
    have h2 := pend_del hs ip
    have h3 : pkAt L ip = 0 := by unfold pkAt; rw [hl]; simp [(hok e (look_some hl).1).kn hk]
    rw [e1, e2, h1]
    omega
  · have e1 : waitL L ip now p = queueL L ip p := by unfold waitL; rw [h]; rfl
    have e2 : waitC L ip now = queueC L ip := by unfold waitC; rw [h]; rfl
    have e3 : queueL L ip p = if 4 ≤ e.pk.length then L else putL L (more e p) := by unfold queueL; rw [hl]
    have e4 : queueC L ip = if 4 ≤ e.pk.length then 5 else 0 := by unfold queueC; rw [hl]
    by_cases h4 : 4 ≤ e.pk.length
    · rw [if_pos h4] at e3 e4
      rw [e1, e2, e3, e4]
      rfl
    · rw [if_neg h4] at e3 e4
      rw [e1, e2, e3, e4]
      have h1 := pend_put hs (more e p)
      have h2 : (more e p).ip = ip := (look_some hl).2
      have h3 : (more e p).pk.length = e.pk.length + 1 := by simp [more]
      have h5 : pkAt L ip = e.pk.length := by unfold pkAt; rw [hl]
      rw [h2] at h1
      simp only [if_true]
      omega
  · have e1 : waitL L ip now p = L := by unfold waitL; rw [h]; rfl
    have e2 : waitC L ip now = 8 := by unfold waitC; rw [h]; rfl
    rw [e1, e2]
    rfl
theorem pend_learn (hs : Srt L) (hok : ∀ e ∈ L, e.Ok) : pend (learnL L ip m now) + (learnP L ip).length = pend L := by
  unfold learnL learnP
  cases hl : look L ip with
  | some e =>
    have h1 := pend_put hs (known ip m now)
    have h2 : pkAt L (known ip m now).ip = e.pk.length := by unfold pkAt known; rw [hl]
    have h3 : (known ip m now).pk.length = 0 := rfl
    simp only [Option.isSome_some, if_true]
    omega
  | none =>
    simp only [Option.isSome_none, Bool.false_eq_true, if_false, List.length_nil, Nat.add_zero]
    cases hr : room L with
    | none => rfl
    | some L' =>
      have h1 := pend_put (room_srt hs hr) (known ip m now)
      have h2 : pkAt L' (known ip m now).ip = 0 := by unfold pkAt known; rw [room_none hs hr hl]
      have h3 : (known ip m now).pk.length = 0 := rfl
      have h4 := pend_room hs hok hr
      simp only
      omega
theorem pend_tick : pend (tickL L now) + tickN L now = pend L := by
  induction L with
  | nil => rfl
  | cons y l ih =>
    have h1 : tickL (y :: l) now = (tick1 now y).toList ++ tickL l now := by
      simp only [tickL, List.filterMap_cons]
      cases tick1 now y <;> rfl
    have h2 : tickN (y :: l) now = (if goes y now then y.pk.length else 0) + tickN l now := by
      by_cases h : goes y now <;> simp [tickN, h]
    rw [h1, h2, pend_cons]
    unfold tick1
    by_cases h : goes y now
    · rw [if_pos h, if_pos h]
      simp only [Option.toList_none, List.nil_append]
      omega
    · rw [if_neg h, if_neg h]
      by_cases h' : again y now
      · rw [if_pos h']
        simp only [Option.toList_some, List.singleton_append, pend_cons, next]
        omega
      · rw [if_neg h']
        simp only [Option.toList_some, List.singleton_append, pend_cons]
        omega
/-- The rows of packets: numbered, rising, of the entry's own address, none told. -/
structure Inv (own : Nat → Int) (i : Nat) (t : Int) (seen : List Nat) (L : List En) : Prop where
  row : ∀ e ∈ L, ∃ ns : List Nat, e.pk = ns.map pkt ∧ ns.Pairwise (· < ·) ∧ ∀ n ∈ ns, n < i ∧ own n = e.ip ∧ n ∉ seen
  seen : ∀ n ∈ seen, n < i
  old : ∀ e ∈ L, e.t ≤ t
variable {own : Nat → Int} {i : Nat} {seen : List Nat}
theorem Inv.nil (own : Nat → Int) (i : Nat) (t : Int) : Inv own i t [] [] := ⟨fun e h => (by cases h), fun n h => (by cases h), fun e h => (by cases h)⟩
theorem Inv.mono {i' : Nat} {t' : Int} (h : Inv own i t seen L) (hi : i ≤ i') (ht : t ≤ t') : Inv own i' t' seen L where
  row e he := by
    obtain ⟨ns, a, b, c⟩ := h.row e he
    exact ⟨ns, a, b, fun n hn => ⟨Nat.lt_of_lt_of_le (c n hn).1 hi, (c n hn).2⟩⟩
  seen n hn := Nat.lt_of_lt_of_le (h.seen n hn) hi
  old e he := Int.le_trans (h.old e he) ht
theorem Inv.sub (h : Inv own i t seen L) (hs : ∀ e ∈ L', e ∈ L) : Inv own i t seen L' := ⟨fun e he => h.row e (hs e he), h.seen, fun e he => h.old e (hs e he)⟩
theorem Inv.new (h : Inv own i t seen L) (hs : Srt L) (ho : own i = ip) : Inv own (i + 1) t seen (newL L ip t (pkt i)) := by
  unfold newL
  cases hr : room L with
  | none => exact h.mono (by omega) (Int.le_refl _)
  | some L' =>
    have h' := (h.sub (room_sub hr)).mono (i' := i + 1) (by omega) (Int.le_refl t)
    refine ⟨fun e he => ?_, h'.seen, fun e he => ?_⟩
    · rcases (mem_put (room_srt hs hr) _ e).1 he with rfl | ⟨he, _⟩
      · refine ⟨[i], rfl, List.pairwise_singleton _ _, fun n hn => ?_⟩
        obtain rfl : n = i := by simpa using hn
        exact ⟨by omega, ho, fun hm => absurd (h.seen n hm) (by omega)⟩
      · exact h'.row e he
    · rcases (mem_put (room_srt hs hr) _ e).1 he with rfl | ⟨he, _⟩
      · exact Int.le_refl _
      · exact h'.old e he
theorem Inv.wait (h : Inv own i t seen L) (hs : Srt L) (ho : own i = ip) : Inv own (i + 1) t seen (waitL L ip t (pkt i)) := by
  unfold waitL
  split
  · exact h.new hs ho
  · split
    · exact (h.sub del_sub).new (srt_del hs ip) ho
    · split
      · unfold queueL
        cases hl : look L ip with
        | none => exact h.mono (by omega) (Int.le_refl _)
        | some s =>
          simp only
          split
          · exact h.mono (by omega) (Int.le_refl _)
          · obtain ⟨h1, h2⟩ := look_some hl
            have h' := h.mono (i' := i + 1) (by omega) (Int.le_refl t)
            refine ⟨fun e he => ?_, h'.seen, fun e he => ?_⟩
            · rcases (mem_put hs _ e).1 he with rfl | ⟨he, _⟩
              · obtain ⟨ns, a, b, c⟩ := h.row s h1
                refine ⟨ns ++ [i], by simp [more, a], List.pairwise_append.2 ⟨b, List.pairwise_singleton _ _, fun x hx y hy => ?_⟩, fun n hn => ?_⟩
                · obtain rfl : y = i := by simpa using hy
                  exact (c x hx).1
                · rcases List.mem_append.1 hn with hn | hn
                  · exact ⟨by have := (c n hn).1; omega, (c n hn).2⟩
                  · obtain rfl : n = i := by simpa using hn
                    exact ⟨by omega, ho.trans h2.symm, fun hm => absurd (h.seen n hm) (by omega)⟩
              · exact h'.row e he
            · rcases (mem_put hs _ e).1 he with rfl | ⟨he, _⟩
              · exact h.old s h1
              · exact h'.old e he
      · exact h.mono (by omega) (Int.le_refl _)
theorem Inv.told (h : Inv own i t seen L) (ip : Int) : ∃ ns : List Nat, learnP L ip = ns.map pkt ∧ ns.Pairwise (· < ·) ∧ ∀ n ∈ ns, n < i ∧ own n = ip ∧ n ∉ seen := by
  unfold learnP
  cases hl : look L ip with
  | none => exact ⟨[], rfl, List.Pairwise.nil, fun n hn => by cases hn⟩
  | some e =>
    obtain ⟨h1, h2⟩ := look_some hl
    obtain ⟨ns, a, b, c⟩ := h.row e h1
    exact ⟨ns, a, b, fun n hn => ⟨(c n hn).1, (c n hn).2.1.trans h2, (c n hn).2.2⟩⟩
theorem Inv.learn (h : Inv own i t seen L) (hs : Srt L) {ns : List Nat} (hn : ∀ n ∈ ns, n < i ∧ own n = ip) : Inv own i t (seen ++ ns) (learnL L ip m t) where
  row e he := by
    have keep : e ∈ L → ¬ e.ip = ip → ∃ ns' : List Nat, e.pk = ns'.map pkt ∧ ns'.Pairwise (· < ·) ∧ ∀ n ∈ ns', n < i ∧ own n = e.ip ∧ n ∉ seen ++ ns := fun h1 h2 => by
      obtain ⟨ns', a, b, c⟩ := h.row e h1
      refine ⟨ns', a, b, fun n hm => ⟨(c n hm).1, (c n hm).2.1, fun hx => ?_⟩⟩
      rcases List.mem_append.1 hx with hx | hx
      · exact (c n hm).2.2 hx
      · exact h2 ((c n hm).2.1.symm.trans (hn n hx).2)
    rcases learn_mem hs he with k | k | k
    · exact keep k.1 k.2
    · exact ⟨[], by rw [k.2]; rfl, List.Pairwise.nil, fun n hn => by cases hn⟩
    · refine keep k.2 fun hip => k.1 ?_
      unfold learnC
      rw [look_mem hs k.2 hip]
      rfl
  seen n hm := by
    rcases List.mem_append.1 hm with hm | hm
    · exact h.seen n hm
    · exact (hn n hm).1
  old e he := by
    rcases learn_mem hs he with k | k | k
    · exact h.old e k.1
    · rw [k.2]; exact Int.le_refl _
    · exact h.old e k.2
theorem tick_mem (he : e ∈ tickL L now) : ∃ s ∈ L, goes s now = false ∧ (again s now = false ∧ e = s ∨ again s now = true ∧ e = next s now) := by
  obtain ⟨s, hs, ht⟩ := List.mem_filterMap.1 he
  unfold tick1 at ht
  refine ⟨s, hs, ?_⟩
  cases hg : goes s now with
  | true => rw [hg] at ht; cases ht
  | false =>
    rw [hg] at ht
    cases ha : again s now with
    | true => rw [ha] at ht; exact ⟨rfl, .inr ⟨rfl, (Option.some.inj ht).symm⟩⟩
    | false => rw [ha] at ht; exact ⟨rfl, .inl ⟨rfl, (Option.some.inj ht).symm⟩⟩
theorem Inv.tick (h : Inv own i t seen L) : Inv own i t seen (tickL L t) where
  row e he := by
    obtain ⟨s, hs, _, ⟨_, rfl⟩ | ⟨_, rfl⟩⟩ := tick_mem he
    · exact h.row _ hs
    · exact h.row s hs
  seen := h.seen
  old e he := by
    obtain ⟨s, hs, _, ⟨_, rfl⟩ | ⟨_, rfl⟩⟩ := tick_mem he
    · exact h.old _ hs
    · exact Int.le_refl _
/-- Behind the steps: who is known goes when sixty are over; who is asked for is asked again each time, and goes. -/
structure Fin (T : Int) (j : Nat) (L : List En) : Prop where
  kn : ∀ e ∈ L, e.kn = true → e.t ≤ T ∧ (j = 0 ∨ 2 * (j : Int) < 60)
  ask : ∀ e ∈ L, e.kn = false → e.t ≤ T + 2 * j ∧ (j : Int) ≤ e.tr
theorem Fin.zero (h : Inv own i t seen L) (hok : ∀ e ∈ L, e.Ok) : Fin t 0 L :=
  ⟨fun e he _ => ⟨h.old e he, .inl rfl⟩, fun e he _ => ⟨by have := h.old e he; omega, by have := (hok e he).tr0; omega⟩⟩
theorem Fin.tick {T : Int} {j : Nat} (h : Fin T j L) : Fin T (j + 1) (tickL L (T + 2 * ((j + 1 : Nat) : Int))) where
  kn e he hk := by
    obtain ⟨s, hs, hg, ⟨_, rfl⟩ | ⟨ha, rfl⟩⟩ := tick_mem he
    · obtain ⟨h1, _⟩ := h.kn e hs hk
      refine ⟨h1, .inr ?_⟩
      unfold goes old age at hg
      rw [hk] at hg
      rw [if_neg (by omega)] at hg
      simp only [Bool.true_and, Bool.or_eq_false_iff, decide_eq_false_iff_not] at hg
      omega
    · have hk' : s.kn = true := hk
      unfold again due at ha
      rw [hk'] at ha
      simp at ha
  ask e he hk := by
    obtain ⟨s, hs, hg, ⟨ha, rfl⟩ | ⟨ha, rfl⟩⟩ := tick_mem he
    · obtain ⟨h1, h2⟩ := h.ask e hs hk
      exfalso
      unfold goes at hg
      unfold again at ha
      have hd : due e (T + 2 * ((j + 1 : Nat) : Int)) = true := by
        unfold due age
        rw [hk, if_neg (by omega)]
        simp only [Bool.not_false, Bool.true_and, decide_eq_true_eq]
        omega
      rw [hd] at hg ha
      simp at hg ha
      omega
    · have hk' : s.kn = false := hk
      obtain ⟨h1, h2⟩ := h.ask s hs hk'
      refine ⟨Int.le_refl _, ?_⟩
      show ((j + 1 : Nat) : Int) ≤ s.tr + 1
      omega
theorem Fin.gone {T : Int} (h : Fin T 100 L) (hok : ∀ e ∈ L, e.Ok) : L = [] := by
  cases L with
  | nil => rfl
  | cons e l =>
    exfalso
    have he : e ∈ e :: l := by simp
    cases hk : e.kn with
    | true => rcases (h.kn e he hk).2 with h1 | h1 <;> omega
    | false =>
      have h1 := (h.ask e he hk).2
      have h2 := (hok e he).tr1
      omega
end
end Go.Proofs.Ytfeipeninmclkaa
