/-
  What is proved: what is known of an address that was learned just now, and later. No program's text.
  Conditions: none.
-/
import Derived.Test.YtfeipeninmclkaaCaStep
namespace Go.Proofs.Ytfeipeninmclkaa

section
variable {L L' : List En} {ip now t d : Int} {m : Mc}
theorem learn_look (hs : Srt L) (h0 : learnC L ip = 0) : look (learnL L ip m now) ip = some (known ip m now) := by
  unfold learnC at h0
  unfold learnL
  cases hl : look L ip with
  | some s => exact look_put_same hs (known ip m now)
  | none =>
    cases hr : room L with
    | none => rw [hl, hr] at h0; simp at h0
    | some L2 => exact look_put_same (room_srt hs hr) (known ip m now)
theorem learn_full (hf : L.length ≤ 32) (h : ¬ learnC L ip = 0) : learnC L ip = 5 ∧ learnL L ip m now = L ∧ L.length = 32 := by
  unfold learnC at h ⊢
  unfold learnL
  cases hl : look L ip with
  | some s => rw [hl] at h; simp at h
  | none =>
    cases hr : room L with
    | some L2 => rw [hl, hr] at h; simp at h
    | none =>
      refine ⟨rfl, rfl, ?_⟩
      unfold room at hr
      split at hr
      · cases hr
      · omega
theorem kn_old (hd : 0 ≤ d) : old (known ip m t) (t + d) = decide (60 ≤ d) := by
  unfold old age known
  have h1 : ¬ t + d < t := by omega
  simp only [if_neg h1, Bool.true_and]
  congr 1
  rw [eq_iff_iff]
  omega
theorem kn_find (hl : look L ip = some (known ip m t)) (hd : 0 ≤ d) : findL L ip (t + d) = if d < 60 then (m, true) else (Mc.zero, false) := by
  unfold findL
  rw [hl]
  simp only [kn_old hd]
  by_cases h : d < 60
  · have h2 : ¬ 60 ≤ d := by omega
    simp [h, h2, known]
  · have h2 : 60 ≤ d := by omega
    simp [h, h2]
theorem kn_wait (hl : look L ip = some (known ip m t)) (hs : Srt L) (hf : L.length ≤ 32) (hd : 0 ≤ d) : waitC L ip (t + d) = if d < 60 then 8 else 0 := by
  have hst : stand L ip (t + d) = if d < 60 then 3 else 1 := by
    unfold stand
    rw [hl]
    simp only [kn_old hd]
    by_cases h : d < 60
    · have h2 : ¬ 60 ≤ d := by omega
      simp [h, h2, known]
    · have h2 : 60 ≤ d := by omega
      simp [h, h2, known]
  unfold waitC
  by_cases h : d < 60
  · rw [hst, if_pos h, if_neg (by omega), if_neg (by omega), if_neg (by omega), if_pos h]
  · rw [hst, if_neg h, if_neg (by omega), if_pos rfl, if_neg h]
    unfold newC
    have hdl := length_del hs ip
    rw [hl] at hdl
    simp only [Option.isSome_some, if_true] at hdl
    have hr : room (delL L ip) = some (delL L ip) := if_pos (by omega)
    rw [hr]
    rfl
end
end Go.Proofs.Ytfeipeninmclkaa
