/-
  What is proved: facts on rows of routes (rising by their keys; put, taken out, looked up) and on addresses that are cut. No program's text.
  Conditions: none.
-/
import Derived.Test.YtimpellpfnmicaaProg
namespace Go.Proofs.Ytimpellpfnmicaa

def pw (b : Int) : Int := 2 ^ (32 - (min (max b 0) 32).toNat)
def cutI (x b : Int) : Int := x - x % pw b

theorem pw_pos (b : Int) : 0 < pw b := Int.pow_pos (by decide)
theorem pw_dvd {a b : Int} (h : a ≤ b) : pw b ∣ pw a := by
  unfold pw
  have e : 32 - (min (max a 0) 32).toNat = (32 - (min (max b 0) 32).toNat) + ((32 - (min (max a 0) 32).toNat) - (32 - (min (max b 0) 32).toNat)) := by omega
  rw [e, Int.pow_add]
  exact Int.dvd_mul_right _ _
theorem emod_le_self {x m : Int} (hx : 0 ≤ x) (hm : 0 < m) : x % m ≤ x := by
  have e := Int.emod_add_mul_ediv x m
  have h : 0 ≤ m * (x / m) := Int.mul_nonneg (by omega) (Int.ediv_nonneg hx (by omega))
  omega
theorem cut_cut_lo {x a b : Int} (h : a ≤ b) : cutI (cutI x a) b = cutI x a := by
  have h1 : (x - x % pw a) % pw b = 0 := by
    apply Int.emod_eq_zero_of_dvd
    apply Int.dvd_trans (pw_dvd h)
    exact Int.dvd_self_sub_emod
  unfold cutI
  rw [h1]
  omega
theorem cut_cut_hi {x a b : Int} (h : b ≤ a) : cutI (cutI x a) b = cutI x b := by
  unfold cutI
  obtain ⟨k, hk⟩ := pw_dvd h
  have ha := pw_pos a
  have hb := pw_pos b
  have e1 : x % pw b % pw a = x % pw a := Int.emod_emod_of_dvd _ ⟨k, hk⟩
  have e2 := Int.emod_add_mul_ediv x (pw b)
  have r0 := Int.emod_nonneg x (Int.ne_of_gt hb)
  have r1 := Int.emod_lt_of_pos x hb
  have s0 := Int.emod_nonneg x (Int.ne_of_gt ha)
  have s1 : x % pw a ≤ x % pw b := by
    rw [← e1]; exact emod_le_self r0 ha
  have e3 : (x - x % pw a) % pw b = x % pw b - x % pw a := by
    have e4 : x - x % pw a = (x % pw b - x % pw a) + pw b * (x / pw b) := by omega
    rw [e4, Int.add_mul_emod_self_left]
    exact Int.emod_eq_of_lt (by omega) (by omega)
  rw [e3]
  omega
theorem cut_cut (x a b : Int) : cutI (cutI x a) b = cutI x (min a b) := by
  rcases Int.le_total a b with h | h
  · rw [cut_cut_lo h, Int.min_eq_left h]
  · rw [cut_cut_hi h, Int.min_eq_right h]
theorem cut_le {x : Int} (hx : 0 ≤ x) (b : Int) : 0 ≤ cutI x b ∧ cutI x b ≤ x := by
  have hb := pw_pos b
  unfold cutI
  have r0 := Int.emod_nonneg x (Int.ne_of_gt hb)
  have r2 : x % pw b ≤ x := emod_le_self hx hb
  omega
theorem cut_32 (x : Int) : cutI x 32 = x := by
  have : pw 32 = 1 := by decide
  simp [cutI, this]
theorem cut_0 {x : Int} (h0 : 0 ≤ x) (h1 : x < 4294967296) : cutI x 0 = 0 := by
  have : pw 0 = 4294967296 := by decide
  simp only [cutI, this]
  omega
structure Rt where
  d : Int
  b : Int
  v : Int
  o : Int
theorem Rt.eq {r s : Rt} (h1 : r.d = s.d) (h2 : r.b = s.b) (h3 : r.v = s.v) (h4 : r.o = s.o) : r = s := by
  cases r; cases s; simp_all
def Same (d b : Int) (r : Rt) : Prop := r.d = d ∧ r.b = b
instance (d b : Int) (r : Rt) : Decidable (Same d b r) := inferInstanceAs (Decidable (_ ∧ _))
def Lo (r s : Rt) : Prop := r.d < s.d ∨ r.d = s.d ∧ r.b < s.b
instance (r s : Rt) : Decidable (Lo r s) := inferInstanceAs (Decidable (_ ∨ _))
theorem Lo.trans {r s t : Rt} (h : Lo r s) (k : Lo s t) : Lo r t := by unfold Lo at *; omega
theorem Lo.irrefl (r : Rt) : ¬ Lo r r := by unfold Lo; omega
theorem Lo.ne {r s : Rt} (h : Lo r s) (d b : Int) : ¬ (Same d b r ∧ Same d b s) := by unfold Lo Same at *; omega
theorem Lo.or (r s : Rt) : Lo r s ∨ Lo s r ∨ Same s.d s.b r := by unfold Lo Same; omega
def Srt (L : List Rt) : Prop := L.Pairwise Lo

def look (L : List Rt) (d b : Int) : Option Rt := L.find? fun r => decide (Same d b r)
theorem look_some {L : List Rt} {d b : Int} {r : Rt} (h : look L d b = some r) : r ∈ L ∧ Same d b r :=
  ⟨List.mem_of_find?_eq_some h, by simpa using List.find?_some h⟩
theorem look_none {L : List Rt} {d b : Int} : look L d b = none ↔ ∀ r ∈ L, ¬ Same d b r := by
  simp [look]
theorem srt_one {L : List Rt} (hs : Srt L) {r s : Rt} (hr : r ∈ L) (hk : s ∈ L) {d b : Int} (h1 : Same d b r) (h2 : Same d b s) : r = s := by
  induction L with
  | nil => cases hr
  | cons x l ih =>
    obtain ⟨ha, hb⟩ := List.pairwise_cons.1 hs
    rcases List.mem_cons.1 hr with rfl | hr' <;> rcases List.mem_cons.1 hk with rfl | hk'
    · rfl
    · exact absurd ⟨h1, h2⟩ ((ha _ hk').ne d b)
    · exact absurd ⟨h2, h1⟩ ((ha _ hr').ne d b)
    · exact ih hb hr' hk'
theorem look_mem {L : List Rt} (hs : Srt L) {r : Rt} (hr : r ∈ L) {d b : Int} (h : Same d b r) : look L d b = some r := by
  cases e : look L d b with
  | none => exact absurd h (look_none.1 e r hr)
  | some s =>
    obtain ⟨hm, hk⟩ := look_some e
    rw [srt_one hs hm hr hk h]

def putL : List Rt → Rt → List Rt
  | [], r => [r]
  | x :: l, r => if Lo x r then x :: putL l r else if Lo r x then r :: x :: l else r :: l
def delL (L : List Rt) (d b : Int) : List Rt := L.filter fun r => !decide (Same d b r)

theorem mem_put {L : List Rt} (hs : Srt L) (r x : Rt) : x ∈ putL L r ↔ x = r ∨ x ∈ L ∧ ¬ Same r.d r.b x := by
  induction L with
  | nil => simp [putL]
  | cons y l ih =>
    obtain ⟨ha, hb⟩ := List.pairwise_cons.1 hs
    unfold putL
    by_cases h1 : Lo y r
    · rw [if_pos h1, List.mem_cons, ih hb, List.mem_cons]
      have hy : ¬ Same r.d r.b y := fun h => h1.ne r.d r.b ⟨h, rfl, rfl⟩
      constructor
      · rintro (rfl | rfl | ⟨h, k⟩)
        · exact .inr ⟨.inl rfl, hy⟩
        · exact .inl rfl
        · exact .inr ⟨.inr h, k⟩
      · rintro (rfl | ⟨rfl | h, k⟩)
        · exact .inr (.inl rfl)
        · exact .inl rfl
        · exact .inr (.inr ⟨h, k⟩)
    · rw [if_neg h1]
      by_cases h2 : Lo r y
      · rw [if_pos h2, List.mem_cons]
        have hy : ∀ z ∈ y :: l, ¬ Same r.d r.b z := fun z hz h => by
          have : Lo r z := by
            rcases List.mem_cons.1 hz with rfl | hz
            · exact h2
            · exact h2.trans (ha z hz)
          exact this.ne r.d r.b ⟨⟨rfl, rfl⟩, h⟩
        constructor
        · rintro (h | h)
          · exact .inl h
          · exact .inr ⟨h, hy x h⟩
        · rintro (h | ⟨h, _⟩)
          · exact .inl h
          · exact .inr h
      · rw [if_neg h2, List.mem_cons, List.mem_cons]
        have hy : Same r.d r.b y := by unfold Lo Same at *; omega
        have hl : ∀ z ∈ l, ¬ Same r.d r.b z := fun z hz h => (ha z hz).ne r.d r.b ⟨hy, h⟩
        constructor
        · rintro (h | h)
          · exact .inl h
          · exact .inr ⟨.inr h, hl x h⟩
        · rintro (h | ⟨rfl | h, k⟩)
          · exact .inl h
          · exact absurd hy k
          · exact .inr h
theorem srt_put {L : List Rt} (hs : Srt L) (r : Rt) : Srt (putL L r) := by
  induction L with
  | nil => exact List.pairwise_cons.2 ⟨by simp, List.Pairwise.nil⟩
  | cons y l ih =>
    obtain ⟨ha, hb⟩ := List.pairwise_cons.1 hs
    unfold putL
    by_cases h1 : Lo y r
    · rw [if_pos h1]
      refine List.pairwise_cons.2 ⟨fun z hz => ?_, ih hb⟩
      rcases (mem_put hb r z).1 hz with rfl | ⟨h, _⟩
      · exact h1
      · exact ha z h
    · rw [if_neg h1]
      by_cases h2 : Lo r y
      · rw [if_pos h2]
        refine List.pairwise_cons.2 ⟨fun z hz => ?_, hs⟩
        rcases List.mem_cons.1 hz with rfl | hz
        · exact h2
        · exact h2.trans (ha z hz)
      · rw [if_neg h2]
        have hy : r.d = y.d ∧ r.b = y.b := by unfold Lo at *; omega
        refine List.pairwise_cons.2 ⟨fun z hz => ?_, hb⟩
        have := ha z hz
        unfold Lo at *
        omega
theorem length_put {L : List Rt} (hs : Srt L) (r : Rt) : (putL L r).length = if (look L r.d r.b).isSome then L.length else L.length + 1 := by
  induction L with
  | nil => rfl
  | cons y l ih =>
    obtain ⟨ha, hb⟩ := List.pairwise_cons.1 hs
    unfold putL
    by_cases h1 : Lo y r
    · have hy : ¬ Same r.d r.b y := fun h => h1.ne r.d r.b ⟨h, rfl, rfl⟩
      have e : look (y :: l) r.d r.b = look l r.d r.b := by simp [look, hy]
      rw [if_pos h1, e, List.length_cons, ih hb, List.length_cons]
      split <;> rfl
    · rw [if_neg h1]
      by_cases h2 : Lo r y
      · have e : look (y :: l) r.d r.b = none := look_none.2 fun z hz h => by
          have : Lo r z := by
            rcases List.mem_cons.1 hz with rfl | hz
            · exact h2
            · exact h2.trans (ha z hz)
          exact this.ne r.d r.b ⟨⟨rfl, rfl⟩, h⟩
        rw [if_pos h2, e]
        rfl
      · have hy : Same r.d r.b y := by unfold Lo Same at *; omega
        have e : look (y :: l) r.d r.b = some y := by simp [look, hy]
        rw [if_neg h2, e]
        rfl
theorem mem_del {L : List Rt} (d b : Int) (x : Rt) : x ∈ delL L d b ↔ x ∈ L ∧ ¬ Same d b x := by
  simp [delL]
theorem srt_del {L : List Rt} (hs : Srt L) (d b : Int) : Srt (delL L d b) := List.Pairwise.filter _ hs
theorem length_del {L : List Rt} (hs : Srt L) (d b : Int) : (delL L d b).length + (if (look L d b).isSome then 1 else 0) = L.length := by
  induction L with
  | nil => rfl
  | cons y l ih =>
    obtain ⟨ha, hb⟩ := List.pairwise_cons.1 hs
    have i := ih hb
    by_cases hy : Same d b y
    · have e : look (y :: l) d b = some y := by simp [look, hy]
      have e2 : delL (y :: l) d b = l := by
        simp only [delL, List.filter_cons, hy, decide_true, Bool.not_true, Bool.false_eq_true, if_false]
        exact List.filter_eq_self.2 fun z hz => by
          have : ¬ Same d b z := fun h => (ha z hz).ne d b ⟨hy, h⟩
          simp [this]
      rw [e, e2]
      rfl
    · have e : look (y :: l) d b = look l d b := by simp [look, hy]
      have e2 : delL (y :: l) d b = y :: delL l d b := by simp [delL, hy]
      rw [e, e2, List.length_cons, List.length_cons]
      omega
theorem look_put_same {L : List Rt} (hs : Srt L) (r : Rt) : look (putL L r) r.d r.b = some r :=
  look_mem (srt_put hs r) ((mem_put hs r r).2 (.inl rfl)) ⟨rfl, rfl⟩
theorem look_put_other {L : List Rt} (hs : Srt L) (r : Rt) {d b : Int} (h : ¬ Same d b r) : look (putL L r) d b = look L d b := by
  cases e : look L d b with
  | none =>
    refine look_none.2 fun z hz hk => ?_
    rcases (mem_put hs r z).1 hz with rfl | ⟨h1, _⟩
    · exact h hk
    · exact look_none.1 e z h1 hk
  | some s =>
    obtain ⟨hm, hk⟩ := look_some e
    refine look_mem (srt_put hs r) ((mem_put hs r s).2 (.inr ⟨hm, fun h2 => h ?_⟩)) hk
    exact ⟨by rw [← h2.1, hk.1], by rw [← h2.2, hk.2]⟩
theorem look_del_same {L : List Rt} (d b : Int) : look (delL L d b) d b = none :=
  look_none.2 fun z hz => ((mem_del d b z).1 hz).2
theorem look_del_other {L : List Rt} (hs : Srt L) {d b d' b' : Int} (h : ¬ (d' = d ∧ b' = b)) : look (delL L d b) d' b' = look L d' b' := by
  cases e : look L d' b' with
  | none => exact look_none.2 fun z hz hk => look_none.1 e z ((mem_del d b z).1 hz).1 hk
  | some s =>
    obtain ⟨hm, hk⟩ := look_some e
    exact look_mem (srt_del hs d b) ((mem_del d b s).2 ⟨hm, fun h2 => h ⟨by rw [← hk.1, h2.1], by rw [← hk.2, h2.2]⟩⟩) hk
/-- Two rising rows of the same routes are one. -/
theorem srt_ext : ∀ {A B : List Rt}, Srt A → Srt B → (∀ x, x ∈ A ↔ x ∈ B) → A = B
  | [], [], _, _, _ => rfl
  | [], y :: l, _, _, h => absurd ((h y).2 (by simp)) (by simp)
  | y :: l, [], _, _, h => absurd ((h y).1 (by simp)) (by simp)
  | x :: l, y :: m, ha, hb, h => by
    obtain ⟨ha1, ha2⟩ := List.pairwise_cons.1 ha
    obtain ⟨hb1, hb2⟩ := List.pairwise_cons.1 hb
    have hxy : x = y := by
      rcases List.mem_cons.1 ((h x).1 (by simp)) with e | e
      · exact e
      · rcases List.mem_cons.1 ((h y).2 (by simp)) with e' | e'
        · exact e'.symm
        · exact absurd ((ha1 y e').trans (hb1 x e)) (Lo.irrefl x)
    subst hxy
    have hm : ∀ z, z ∈ l ↔ z ∈ m := fun z => by
      constructor
      · intro hz
        rcases List.mem_cons.1 ((h z).1 (List.mem_cons_of_mem _ hz)) with rfl | e
        · exact absurd (ha1 z hz) (Lo.irrefl z)
        · exact e
      · intro hz
        rcases List.mem_cons.1 ((h z).2 (List.mem_cons_of_mem _ hz)) with rfl | e
        · exact absurd (hb1 z hz) (Lo.irrefl z)
        · exact e
    rw [srt_ext ha2 hb2 hm]

end Go.Proofs.Ytimpellpfnmicaa
