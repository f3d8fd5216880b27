/-
  What is proved: what Encap puts Decap takes; what Decap takes is what Encap would put; what is cut off is too short.
  Conditions: none of its own.
-/
import Derived.Test.YtnjohgfhagoppaaDoorGvDec
namespace Go.Proofs.YtnjohgfhagoppaaDoor
open Go.RowKit

def critB (c : Bool) : UInt8 := if c then 64 else 0
def hd8 (a id : Nat) (c : Bool) : List UInt8 := [UInt8.ofNat a, critB c, 101, 88, UInt8.ofNat (id / 65536), UInt8.ofNat (id / 256), UInt8.ofNat id, 0]
theorem ofNat_congr {a b : Nat} (h : a % 256 = b % 256) : UInt8.ofNat a = UInt8.ofNat b := by apply UInt8.toNat_inj.1; rw [ofNat_lt, ofNat_lt, h]
theorem gHd_eq (id a : Nat) (c : Bool) : gHd id (4 * a) c = hd8 a id c := by
  unfold gHd hd8 be4 critB gFirst
  have e : 4 * a / 4 = a := by omega
  rw [e]
  cases c
  · simp only [Bool.false_eq_true, if_false, List.cons_append, List.nil_append]
    rw [ofNat_congr (show (a * 16777216 + 0 + 25944) / 16777216 % 256 = a % 256 by omega), ofNat_congr (show (a * 16777216 + 0 + 25944) / 65536 % 256 = 0 % 256 by omega), ofNat_congr (show (a * 16777216 + 0 + 25944) / 256 % 256 = 101 % 256 by omega), ofNat_congr (show (a * 16777216 + 0 + 25944) % 256 = 88 % 256 by omega),
      ofNat_congr (show id * 256 / 16777216 % 256 = id / 65536 % 256 by omega), ofNat_congr (show id * 256 / 65536 % 256 = id / 256 % 256 by omega), ofNat_congr (show id * 256 / 256 % 256 = id % 256 by omega), ofNat_congr (show id * 256 % 256 = 0 % 256 by omega)]
    rfl
  · simp only [if_true, List.cons_append, List.nil_append]
    rw [ofNat_congr (show (a * 16777216 + 4194304 + 25944) / 16777216 % 256 = a % 256 by omega), ofNat_congr (show (a * 16777216 + 4194304 + 25944) / 65536 % 256 = 64 % 256 by omega), ofNat_congr (show (a * 16777216 + 4194304 + 25944) / 256 % 256 = 101 % 256 by omega), ofNat_congr (show (a * 16777216 + 4194304 + 25944) % 256 = 88 % 256 by omega),
      ofNat_congr (show id * 256 / 16777216 % 256 = id / 65536 % 256 by omega), ofNat_congr (show id * 256 / 65536 % 256 = id / 256 % 256 by omega), ofNat_congr (show id * 256 / 256 % 256 = id % 256 by omega), ofNat_congr (show id * 256 % 256 = 0 % 256 by omega)]
    rfl
/-- Behind such a header. -/
theorem hd8_facts (a id : Nat) (c : Bool) (r : List UInt8) (ha : a < 64) (hid : id < 16777216) :
    gHead (hd8 a id c ++ r) = 0 ∧ gSize (hd8 a id c ++ r) = 4 * a ∧ gCritBit (hd8 a id c ++ r) = c ∧ xId (hd8 a id c ++ r) = id ∧ (hd8 a id c ++ r).length = 8 + r.length ∧ (∀ k, (hd8 a id c ++ r).drop (8 + k) = r.drop k) := by
  have hl : (hd8 a id c ++ r).length = 8 + r.length := by rw [List.length_append]; rfl
  have g0 : ((hd8 a id c ++ r).getD 0 0).toNat = a := by show (UInt8.ofNat a).toNat = a; rw [ofNat_lt]; omega
  have g1 : ((hd8 a id c ++ r).getD 1 0).toNat = if c then 64 else 0 := by show (critB c).toNat = _; cases c <;> rfl
  refine ⟨?_, ?_, ?_, ?_, hl, fun k => ?_⟩
  · unfold gHead
    rw [if_neg (by omega), g0, g1, if_neg (by cases c <;> simp <;> omega)]
    rfl
  · unfold gSize
    rw [g0]
    omega
  · unfold gCritBit
    rw [g1]
    cases c <;> rfl
  · show ((UInt8.ofNat (id / 65536)).toNat * 256 + (UInt8.ofNat (id / 256)).toNat) * 256 + (UInt8.ofNat id).toNat = id
    rw [ofNat_lt, ofNat_lt, ofNat_lt]
    omega
  · rw [← List.drop_drop]
    rfl
theorem gPut_eq (id : Nat) (l : List Op) (f : List UInt8) (h : opAll l = true) : gPut id l f = hd8 (opSize l / 4) id (opCrit l) ++ (opBytes l ++ f) := by
  have h4 := opSize_four l h
  unfold gPut
  rw [← gHd_eq, show 4 * (opSize l / 4) = opSize l by omega, List.append_assoc]
theorem gPut_len (id : Nat) (l : List Op) (f : List UInt8) : (gPut id l f).length = 8 + opSize l + f.length := by
  unfold gPut
  rw [List.length_append, List.length_append, gHd_len, opBytes_len]
/-- What Encap put in is told by Decap. -/
theorem gPut_facts (id : Nat) (l : List Op) (f : List UInt8) (hid : id < 16777216) (hR : opRight l = 0) (hfit : ∀ x ∈ l, x.Fit) :
    gCode (gPut id l f) = frameWrong f.length ∧ xId (gPut id l f) = id ∧ gOps (gPut id l f) = l ∧ gEnd (gPut id l f) = f := by
  obtain ⟨hall, hsz⟩ := opRight_zero hR
  have h4 := opSize_four l hall
  rw [gPut_eq id l f hall]
  obtain ⟨k1, k2, k3, k4, k5, k6⟩ := hd8_facts (opSize l / 4) id (opCrit l) (opBytes l ++ f) (by omega) hid
  rw [show 4 * (opSize l / 4) = opSize l by omega] at k2
  have hmid : gMid (hd8 (opSize l / 4) id (opCrit l) ++ (opBytes l ++ f)) = opBytes l := by
    unfold gMid
    rw [k2, show (8 : Nat) = 8 + 0 from rfl, k6, List.drop_zero, ← opBytes_len, List.take_left]
  have hops := ops_back l hall hfit
  have hlen : (opBytes l ++ f).length = opSize l + f.length := by rw [List.length_append, opBytes_len]
  have hopt : gOpt (hd8 (opSize l / 4) id (opCrit l) ++ (opBytes l ++ f)) = 0 := by
    unfold gOpt
    rw [k2, k3, k5, hmid, hops, if_neg (by omega)]
    exact if_pos rfl
  refine ⟨?_, k4, ?_, ?_⟩
  · rw [gcode_frame k1 hopt, k2, k5, hlen]
    congr 1
    omega
  · unfold gOps
    rw [hmid, hops]
    rfl
  · unfold gEnd
    rw [k2, k6, ← opBytes_len, List.drop_left]
theorem gback {v : Value} {id : Nat} {l : List Op} {f : List UInt8} {w : World} (hid : id < 16777216) (hR : opRight l = 0) (hfit : ∀ x ∈ l, x.Fit) (h1 : 14 ≤ f.length) (h2 : f.length ≤ 9000) (hr : Rd w v (gPut id l f)) :
    Calls Tryd.prog 18 #[v] w (GXGood id l f w) := by
  obtain ⟨k1, k2, k3, k4⟩ := gPut_facts id l f hid hR hfit
  have hsz := (opRight_zero hR).2
  have hfw : frameWrong f.length = 0 := by unfold frameWrong; rw [if_neg (by omega), if_neg (by omega)]
  refine (gdec_any hr (by rw [gPut_len]; omega)).mono ?_
  rintro e w' (⟨h, _⟩ | ⟨_, h⟩)
  · exact absurd (k1.trans hfw) h
  · rw [k2, k3, k4] at h
    exact h
/-- What Decap takes. -/
theorem gtake_facts {bs : List UInt8} (h : gCode bs = 0) : opRight (gOps bs) = 0 ∧ (∀ x ∈ gOps bs, x.Fit) ∧ 14 ≤ (gEnd bs).length ∧ (gEnd bs).length ≤ 9000 ∧ xId bs < 16777216 ∧ (gPut (xId bs) (gOps bs) (gEnd bs)).length = bs.length ∧ (gOps bs).length ≤ 63 := by
  by_cases hh : gHead bs = 0
  · by_cases ho : gOpt bs = 0
    · rw [gcode_frame hh ho] at h
      have hfit := frame_fits h
      have h8 : ¬ bs.length < 8 := fun h8 => by unfold gHead at hh; rw [if_pos h8] at hh; cases hh
      have hns : ¬ bs.length - 8 < gSize bs := fun hs => by unfold gOpt at ho; rw [if_pos hs] at ho; cases ho
      have hs252 : gSize bs ≤ 252 := by unfold gSize; omega
      have hml : (gMid bs).length = gSize bs := by unfold gMid; rw [List.length_take, List.length_drop]; omega
      have hops : ops (gMid bs) = some (gOps bs) := by
        unfold gOpt at ho
        rw [if_neg hns] at ho
        unfold gOps
        cases hm : ops (gMid bs) with
        | none => rw [hm] at ho; cases ho
        | some l => rfl
      obtain ⟨g1, g2, g3, g4⟩ := ops_good _ _ (Nat.le_refl _) _ hops
      have hel : (gEnd bs).length = bs.length - 8 - gSize bs := by unfold gEnd; rw [List.length_drop]; omega
      have h63 : 4 * (gOps bs).length ≤ opSize (gOps bs) := by
        have hx : ∀ l : List Op, 4 * l.length ≤ opSize l := fun l => by
          induction l with
          | nil => simp [opSize]
          | cons o l ih => rw [opSize, List.length_cons]; omega
        exact hx _
      refine ⟨by unfold opRight; rw [if_pos g1, if_pos (by omega)], g2, by omega, by omega, ?_, by rw [gPut_len]; omega, by omega⟩
      unfold xId
      have l0 := (bs.getD 4 0).toNat_lt
      have l1 := (bs.getD 5 0).toNat_lt
      have l2 := (bs.getD 6 0).toNat_lt
      omega
    · rw [gcode_opt hh ho] at h; exact absurd h ho
  · rw [gcode_head hh] at h; exact absurd h hh
/-- What is cut off. -/
theorem gcut_facts (id : Nat) (l : List Op) (f : List UInt8) (hid : id < 16777216) (hR : opRight l = 0) (hfit : ∀ x ∈ l, x.Fit) (h1 : 14 ≤ f.length) (h2 : f.length ≤ 9000) (n : Nat) (hn : n ≤ (gPut id l f).length) :
    (n < 8 + opSize l + 14 → gCode ((gPut id l f).take n) = 2) ∧ (8 + opSize l + 14 ≤ n → gCode ((gPut id l f).take n) = 0 ∧ (gEnd ((gPut id l f).take n)).length = n - (8 + opSize l)) := by
  obtain ⟨hall, hsz⟩ := opRight_zero hR
  have h4 := opSize_four l hall
  rw [gPut_len] at hn
  by_cases h8 : n < 8
  · refine ⟨fun _ => ?_, fun h => by omega⟩
    have hl : ((gPut id l f).take n).length < 8 := by rw [List.length_take]; omega
    have hh : gHead ((gPut id l f).take n) = 2 := by unfold gHead; rw [if_pos hl]
    rw [gcode_head (by rw [hh]; decide), hh]
  · rw [gPut_eq id l f hall]
    have et : (hd8 (opSize l / 4) id (opCrit l) ++ (opBytes l ++ f)).take n = hd8 (opSize l / 4) id (opCrit l) ++ (opBytes l ++ f).take (n - 8) := by
      rw [List.take_append]
      congr 1
      exact List.take_of_length_le (by show 8 ≤ n; omega)
    rw [et]
    obtain ⟨k1, k2, k3, k4, k5, k6⟩ := hd8_facts (opSize l / 4) id (opCrit l) ((opBytes l ++ f).take (n - 8)) (by omega) hid
    rw [show 4 * (opSize l / 4) = opSize l by omega] at k2
    have hlen : ((opBytes l ++ f).take (n - 8)).length = n - 8 := by rw [List.length_take, List.length_append, opBytes_len]; omega
    rw [hlen] at k5
    by_cases hs : n - 8 < opSize l
    · refine ⟨fun _ => ?_, fun h => by omega⟩
      have ho : gOpt (hd8 (opSize l / 4) id (opCrit l) ++ (opBytes l ++ f).take (n - 8)) = 2 := by unfold gOpt; rw [k2, k5, if_pos (by omega)]
      rw [gcode_opt k1 (by rw [ho]; decide), ho]
    · have hmid : gMid (hd8 (opSize l / 4) id (opCrit l) ++ (opBytes l ++ f).take (n - 8)) = opBytes l := by
        unfold gMid
        rw [k2, show (8 : Nat) = 8 + 0 from rfl, k6, List.drop_zero, List.take_take, Nat.min_eq_left (by omega), ← opBytes_len, List.take_left]
      have ho : gOpt (hd8 (opSize l / 4) id (opCrit l) ++ (opBytes l ++ f).take (n - 8)) = 0 := by
        unfold gOpt
        rw [k2, k3, k5, hmid, ops_back l hall hfit, if_neg (by omega)]
        exact if_pos rfl
      have hc := gcode_frame k1 ho
      rw [k2, k5] at hc
      refine ⟨fun h => ?_, fun h => ⟨?_, ?_⟩⟩
      · rw [hc]; unfold frameWrong; rw [if_pos (by omega)]
      · rw [hc]; unfold frameWrong; rw [if_neg (by omega), if_neg (by omega)]
      · unfold gEnd
        rw [List.length_drop, k2, k5]
        omega
end Go.Proofs.YtnjohgfhagoppaaDoor
