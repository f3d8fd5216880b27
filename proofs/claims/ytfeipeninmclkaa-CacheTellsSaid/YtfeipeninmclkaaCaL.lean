/-
  What is proved: facts on rows of entries (rising by their addresses; put, taken out, looked up), and what a cache does to them. No program's text.
  Conditions: none.
-/
import Derived.Test.YtfeipeninmclkaaProg
namespace Go.Proofs.Ytfeipeninmclkaa

/-- An Ethernet address. -/
structure Mc where
  a : Int
  b : Int
  c : Int
  d : Int
  e : Int
  f : Int
deriving DecidableEq
def Mc.zero : Mc := ⟨0, 0, 0, 0, 0, 0⟩
/-- An entry. -/
structure En where
  ip : Int
  kn : Bool
  m : Mc
  t : Int
  tr : Int
  pk : List (List UInt8)
instance : Inhabited En := ⟨⟨0, false, Mc.zero, 0, 0, []⟩⟩
def Srt (L : List En) : Prop := L.Pairwise (fun x y => x.ip < y.ip)
def look (L : List En) (k : Int) : Option En := L.find? fun r => decide (r.ip = k)
theorem look_some {L : List En} {k : Int} {r : En} (h : look L k = some r) : r ∈ L ∧ r.ip = k :=
  ⟨List.mem_of_find?_eq_some h, by simpa using List.find?_some h⟩
theorem look_none {L : List En} {k : Int} : look L k = none ↔ ∀ r ∈ L, ¬ r.ip = k := by simp [look]
theorem srt_one {L : List En} (hs : Srt L) {r s : En} (hr : r ∈ L) (hk : s ∈ L) (h : r.ip = s.ip) : r = s := by
  induction L with
  | nil => cases hr
  | cons x l ih =>
    obtain ⟨ha, hb⟩ := List.pairwise_cons.1 hs
    rcases List.mem_cons.1 hr with rfl | hr' <;> rcases List.mem_cons.1 hk with rfl | hk'
    · rfl
    · have := ha _ hk'; omega
    · have := ha _ hr'; omega
    · exact ih hb hr' hk'
theorem look_mem {L : List En} (hs : Srt L) {r : En} (hr : r ∈ L) {k : Int} (h : r.ip = k) : look L k = some r := by
  cases e : look L k with
  | none => exact absurd h (look_none.1 e r hr)
  | some s =>
    obtain ⟨hm, hk⟩ := look_some e
    rw [srt_one hs hm hr (hk.trans h.symm)]

def putL : List En → En → List En
  | [], r => [r]
  | x :: l, r => if x.ip < r.ip then x :: putL l r else if r.ip < x.ip then r :: x :: l else r :: l
def delL (L : List En) (k : Int) : List En := L.filter fun r => !decide (r.ip = k)
theorem mem_put {L : List En} (hs : Srt L) (r x : En) : x ∈ putL L r ↔ x = r ∨ x ∈ L ∧ ¬ x.ip = r.ip := by
  induction L with
  | nil => simp [putL]
  | cons y l ih =>
    obtain ⟨ha, hb⟩ := List.pairwise_cons.1 hs
    unfold putL
    by_cases h1 : y.ip < r.ip
    · rw [if_pos h1, List.mem_cons, ih hb, List.mem_cons]
      constructor
      · rintro (rfl | rfl | ⟨h, k⟩)
        · exact .inr ⟨.inl rfl, by omega⟩
        · exact .inl rfl
        · exact .inr ⟨.inr h, k⟩
      · rintro (rfl | ⟨rfl | h, k⟩)
        · exact .inr (.inl rfl)
        · exact .inl rfl
        · exact .inr (.inr ⟨h, k⟩)
    · rw [if_neg h1]
      by_cases h2 : r.ip < y.ip
      · rw [if_pos h2, List.mem_cons]
        have hy : ∀ z ∈ y :: l, ¬ z.ip = r.ip := fun z hz => by
          rcases List.mem_cons.1 hz with rfl | hz
          · omega
          · have := ha z hz; omega
        constructor
        · rintro (h | h)
          · exact .inl h
          · exact .inr ⟨h, hy x h⟩
        · rintro (h | ⟨h, _⟩)
          · exact .inl h
          · exact .inr h
      · rw [if_neg h2, List.mem_cons, List.mem_cons]
        have hy : y.ip = r.ip := by omega
        constructor
        · rintro (h | h)
          · exact .inl h
          · exact .inr ⟨.inr h, by have := ha x h; omega⟩
        · rintro (h | ⟨rfl | h, k⟩)
          · exact .inl h
          · exact absurd hy k
          · exact .inr h
theorem srt_put {L : List En} (hs : Srt L) (r : En) : Srt (putL L r) := by
  induction L with
  | nil => exact List.pairwise_cons.2 ⟨by simp, List.Pairwise.nil⟩
  | cons y l ih =>
    obtain ⟨ha, hb⟩ := List.pairwise_cons.1 hs
    unfold putL
    by_cases h1 : y.ip < r.ip
    · rw [if_pos h1]
      refine List.pairwise_cons.2 ⟨fun z hz => ?_, ih hb⟩
      rcases (mem_put hb r z).1 hz with rfl | ⟨h, _⟩
      · exact h1
      · exact ha z h
    · rw [if_neg h1]
      by_cases h2 : r.ip < y.ip
      · rw [if_pos h2]
        refine List.pairwise_cons.2 ⟨fun z hz => ?_, hs⟩
        rcases List.mem_cons.1 hz with rfl | hz
        · exact h2
        · have := ha z hz; omega
      · rw [if_neg h2]
        refine List.pairwise_cons.2 ⟨fun z hz => ?_, hb⟩
        have := ha z hz
        omega
theorem length_put {L : List En} (hs : Srt L) (r : En) : (putL L r).length = if (look L r.ip).isSome then L.length else L.length + 1 := by
  induction L with
  | nil => rfl
  | cons y l ih =>
    obtain ⟨ha, hb⟩ := List.pairwise_cons.1 hs
    unfold putL
    by_cases h1 : y.ip < r.ip
    · have hy : ¬ y.ip = r.ip := by omega
      have e : look (y :: l) r.ip = look l r.ip := by simp [look, hy]
      rw [if_pos h1, e, List.length_cons, ih hb, List.length_cons]
      split <;> rfl
    · rw [if_neg h1]
      by_cases h2 : r.ip < y.ip
      · have e : look (y :: l) r.ip = none := look_none.2 fun z hz => by
          rcases List.mem_cons.1 hz with rfl | hz
          · omega
          · have := ha z hz; omega
        rw [if_pos h2, e]
        rfl
      · have hy : y.ip = r.ip := by omega
        have e : look (y :: l) r.ip = some y := by simp [look, hy]
        rw [if_neg h2, e]
        rfl
theorem mem_del {L : List En} (k : Int) (x : En) : x ∈ delL L k ↔ x ∈ L ∧ ¬ x.ip = k := by simp [delL]
theorem srt_del {L : List En} (hs : Srt L) (k : Int) : Srt (delL L k) := List.Pairwise.filter _ hs
theorem length_del {L : List En} (hs : Srt L) (k : Int) : (delL L k).length + (if (look L k).isSome then 1 else 0) = L.length := by
  induction L with
  | nil => rfl
  | cons y l ih =>
    obtain ⟨ha, hb⟩ := List.pairwise_cons.1 hs
    have i := ih hb
    by_cases hy : y.ip = k
    · have e : look (y :: l) k = some y := by simp [look, hy]
      have e2 : delL (y :: l) k = l := by
        simp only [delL, List.filter_cons, hy, decide_true, Bool.not_true, Bool.false_eq_true, if_false]
        exact List.filter_eq_self.2 fun z hz => by
          have := ha z hz
          have : ¬ z.ip = k := by omega
          simp [this]
      rw [e, e2]
      rfl
    · have e : look (y :: l) k = look l k := by simp [look, hy]
      have e2 : delL (y :: l) k = y :: delL l k := by simp [delL, hy]
      rw [e, e2, List.length_cons, List.length_cons]
      omega
theorem look_put_same {L : List En} (hs : Srt L) (r : En) : look (putL L r) r.ip = some r :=
  look_mem (srt_put hs r) ((mem_put hs r r).2 (.inl rfl)) rfl
theorem look_put_other {L : List En} (hs : Srt L) (r : En) {k : Int} (h : ¬ k = r.ip) : look (putL L r) k = look L k := by
  cases e : look L k with
  | none =>
    refine look_none.2 fun z hz hk => ?_
    rcases (mem_put hs r z).1 hz with rfl | ⟨h1, _⟩
    · exact h hk.symm
    · exact look_none.1 e z h1 hk
  | some s =>
    obtain ⟨hm, hk⟩ := look_some e
    exact look_mem (srt_put hs r) ((mem_put hs r s).2 (.inr ⟨hm, fun h2 => h (hk.symm.trans h2)⟩)) hk
theorem look_del_same {L : List En} (k : Int) : look (delL L k) k = none := look_none.2 fun z hz => ((mem_del k z).1 hz).2
theorem look_del_other {L : List En} (hs : Srt L) {k k' : Int} (h : ¬ k' = k) : look (delL L k) k' = look L k' := by
  cases e : look L k' with
  | none => exact look_none.2 fun z hz hk => look_none.1 e z ((mem_del k z).1 hz).1 hk
  | some s =>
    obtain ⟨hm, hk⟩ := look_some e
    exact look_mem (srt_del hs k) ((mem_del k s).2 ⟨hm, fun h2 => h (hk.symm.trans h2)⟩) hk
theorem del_none {L : List En} {k : Int} (h : look L k = none) : delL L k = L :=
  List.filter_eq_self.2 fun z hz => by have := look_none.1 h z hz; simp [this]
/-- In the midst of a rising row. -/
theorem put_mid : ∀ {A B : List En} {e e' : En}, Srt (A ++ e :: B) → e'.ip = e.ip → putL (A ++ e :: B) e' = A ++ e' :: B
  | [], B, e, e', _, h => by
    show (if e.ip < e'.ip then _ else if e'.ip < e.ip then _ else _) = _
    rw [if_neg (by omega), if_neg (by omega)]
    rfl
  | x :: A, B, e, e', hs, h => by
    obtain ⟨ha, hb⟩ := List.pairwise_cons.1 hs
    have := ha e (by simp)
    show (if x.ip < e'.ip then _ else _) = _
    rw [if_pos (by omega)]
    exact congrArg (x :: ·) (put_mid hb h)
theorem del_mid {A B : List En} {e : En} (hs : Srt (A ++ e :: B)) : delL (A ++ e :: B) e.ip = A ++ B := by
  induction A with
  | nil =>
    obtain ⟨ha, hb⟩ := List.pairwise_cons.1 hs
    show List.filter _ (e :: B) = B
    rw [List.filter_cons]
    simp only [decide_true, Bool.not_true, Bool.false_eq_true, if_false]
    exact List.filter_eq_self.2 fun z hz => by
      have := ha z hz
      have : ¬ z.ip = e.ip := by omega
      simp [this]
  | cons x A ih =>
    obtain ⟨ha, hb⟩ := List.pairwise_cons.1 hs
    have := ha e (by simp)
    have hx : ¬ x.ip = e.ip := by omega
    show List.filter _ (x :: (A ++ e :: B)) = _
    rw [List.filter_cons]
    simp only [hx, decide_false, Bool.not_false, if_true]
    exact congrArg (x :: ·) (ih hb)
theorem put_new : ∀ {A B : List En} {e : En}, (∀ x ∈ A, x.ip < e.ip) → (∀ x ∈ B, e.ip < x.ip) → putL (A ++ B) e = A ++ e :: B
  | [], [], _, _, _ => rfl
  | [], y :: B, e, _, h => by
    have := h y (by simp)
    show (if y.ip < e.ip then _ else if e.ip < y.ip then _ else _) = _
    rw [if_neg (by omega), if_pos this]
    rfl
  | x :: A, B, e, h1, h2 => by
    show (if x.ip < e.ip then _ else _) = _
    rw [if_pos (h1 x (by simp))]
    exact congrArg (x :: ·) (put_new (fun y hy => h1 y (List.mem_cons_of_mem _ hy)) h2)
/-- Two rising rows of the same entries are one. -/
theorem srt_ext : ∀ {A B : List En}, Srt A → Srt B → (∀ x, x ∈ A ↔ x ∈ B) → A = B
  | [], [], _, _, _ => rfl
  | [], y :: l, _, _, h => absurd ((h y).2 (by simp)) (by simp)
  | y :: l, [], _, _, h => absurd ((h y).1 (by simp)) (by simp)
  | x :: l, y :: m, ha, hb, h => by
    obtain ⟨ha1, ha2⟩ := List.pairwise_cons.1 ha
    obtain ⟨hb1, hb2⟩ := List.pairwise_cons.1 hb
    have hxy : x = y := by
      rcases List.mem_cons.1 ((h x).1 (by simp)) with e | e
      · exact e
      · rcases List.mem_cons.1 ((h y).2 (by simp)) with e' | e'
        · exact e'.symm
        · have := ha1 y e'; have := hb1 x e; omega
    subst hxy
    have hm : ∀ z, z ∈ l ↔ z ∈ m := fun z => by
      constructor
      · intro hz
        rcases List.mem_cons.1 ((h z).1 (List.mem_cons_of_mem _ hz)) with rfl | e
        · have := ha1 z hz; omega
        · exact e
      · intro hz
        rcases List.mem_cons.1 ((h z).2 (List.mem_cons_of_mem _ hz)) with rfl | e
        · have := hb1 z hz; omega
        · exact e
    rw [srt_ext ha2 hb2 hm]

/-! ### What a cache does -/
def age (e : En) (now : Int) : Int := if now < e.t then 0 else now - e.t
def old (e : En) (now : Int) : Bool := e.kn && decide (60 ≤ age e now)
def due (e : En) (now : Int) : Bool := !e.kn && decide (2 ≤ age e now)
/-- 0: missing, 1: too old, 2: asked for, 3: known. -/
def stand (L : List En) (ip now : Int) : Int :=
  match look L ip with
  | none => 0
  | some e => if e.kn then (if old e now then 1 else 3) else 2
def findL (L : List En) (ip now : Int) : Mc × Bool :=
  match look L ip with
  | none => (Mc.zero, false)
  | some e => if e.kn && !old e now then (e.m, true) else (Mc.zero, false)
def lst1 (acc : Option En) (e : En) : Option En :=
  match acc with
  | none => if e.kn then some e else none
  | some b => if e.kn && decide (e.t < b.t) then some e else some b
def lst (L : List En) : Option En := L.foldl lst1 none
def room (L : List En) : Option (List En) := if L.length < 32 then some L else (lst L).map fun e => delL L e.ip
def known (ip : Int) (m : Mc) (now : Int) : En := ⟨ip, true, m, now, 0, []⟩
def asks1 (ip now : Int) (p : List UInt8) : En := ⟨ip, false, Mc.zero, now, 1, [p]⟩
def learnP (L : List En) (ip : Int) : List (List UInt8) := match look L ip with | some e => e.pk | none => []
def learnC (L : List En) (ip : Int) : Int := if (look L ip).isSome || (room L).isSome then 0 else 5
def learnL (L : List En) (ip : Int) (m : Mc) (now : Int) : List En :=
  if (look L ip).isSome then putL L (known ip m now) else
  match room L with
  | some L' => putL L' (known ip m now)
  | none => L
def newA (L : List En) : Bool := (room L).isSome
def newC (L : List En) : Int := if (room L).isSome then 0 else 5
def newL (L : List En) (ip now : Int) (p : List UInt8) : List En := match room L with | some L' => putL L' (asks1 ip now p) | none => L
def waitA (L : List En) (ip now : Int) : Bool :=
  if stand L ip now = 0 then newA L else if stand L ip now = 1 then newA (delL L ip) else false
def more (e : En) (p : List UInt8) : En := ⟨e.ip, e.kn, e.m, e.t, e.tr, e.pk ++ [p]⟩
def queueC (L : List En) (ip : Int) : Int := match look L ip with | some e => if 4 ≤ e.pk.length then 5 else 0 | none => 0
def queueL (L : List En) (ip : Int) (p : List UInt8) : List En := match look L ip with | some e => if 4 ≤ e.pk.length then L else putL L (more e p) | none => L
def waitC (L : List En) (ip now : Int) : Int :=
  if stand L ip now = 0 then newC L else if stand L ip now = 1 then newC (delL L ip) else if stand L ip now = 2 then queueC L ip else 8
def waitL (L : List En) (ip now : Int) (p : List UInt8) : List En :=
  if stand L ip now = 0 then newL L ip now p else if stand L ip now = 1 then newL (delL L ip) ip now p else if stand L ip now = 2 then queueL L ip p else L
def goes (e : En) (now : Int) : Bool := old e now || (due e now && decide (3 ≤ e.tr))
def again (e : En) (now : Int) : Bool := due e now && !decide (3 ≤ e.tr)
def next (e : En) (now : Int) : En := ⟨e.ip, e.kn, e.m, now, e.tr + 1, e.pk⟩
def tick1 (now : Int) (e : En) : Option En := if goes e now then none else if again e now then some (next e now) else some e
def tickL (L : List En) (now : Int) : List En := L.filterMap (tick1 now)
def tickA (L : List En) (now : Int) : List Int := (L.filter (fun e => again e now)).map (·.ip)
def tickN (L : List En) (now : Int) : Nat := ((L.filter (fun e => goes e now)).map (·.pk.length)).sum
theorem tickL_snoc (L : List En) (e : En) (now : Int) : tickL (L ++ [e]) now = tickL L now ++ (tick1 now e).toList := by
  simp only [tickL, List.filterMap_append]
  cases h : tick1 now e <;> simp [h]
theorem tickA_snoc (L : List En) (e : En) (now : Int) : tickA (L ++ [e]) now = tickA L now ++ (if again e now then [e.ip] else []) := by
  by_cases h : again e now <;> simp [tickA, h]
theorem tickN_snoc (L : List En) (e : En) (now : Int) : tickN (L ++ [e]) now = tickN L now + (if goes e now then e.pk.length else 0) := by
  by_cases h : goes e now <;> simp [tickN, h]
end Go.Proofs.Ytfeipeninmclkaa
