/-
  What is proved: a heap that keeps each byte of its parts once says what its parts say (no program's text).
  Conditions: none.
  What is proved: 'append(s, make([]T, n)...)' onto a row of one's own, of one-cell elements (no program's text).
  Conditions: the row stays small.
  What is proved: a heap of parts in memory; (*frag.heap).has, age, isWhole by contract.
  Conditions: the numbers fit their types.
  What is proved: what a heap's stores do to it; (*frag.heap).reach by contract.
  Conditions: the numbers fit their types.
  What is proved: what a heap's other stores do to it; (*frag.heap).add by contract.
  Conditions: the numbers fit their types.
  What is proved: (*frag.heap).add by contract.
  Conditions: the numbers fit their types; the part's bytes lie apart from the heap's.
  What is proved: (*frag.heap).goesWith and packet by contract.
  Conditions: the numbers fit their types.
  What is proved: (*frag.heap).packet by contract.
  Conditions: none of its own.
  What is proved: a reassembler in memory: its map holds a heap for each key; looked up, stored, taken out, counted; isPart, keyOf by contract.
  Conditions: the numbers fit their types.
  What is proved: bytes.Clone (the library's, laid at this program) and frag.clone by contract: a packet whose bytes lie in a row of one's own.
  Conditions: at most 2^47 bytes.
  What is proved: (*frag.Reass).Take by contract.
  Conditions: the numbers fit their types; the part's bytes lie apart from the reassembler's.
  What is proved: frag.New, (*frag.Reass).Len and Tick by contract.
  Conditions: the numbers fit their types.
  What is proved: package frag's reassembler does what the laws ask of it (FgOk).
  Conditions: none of its own.
-/
import Derived.Test.YtdmogppkambgaaaDoorMFg
import Derived.Laws.AppendOwn
import Derived.OwnWalk
import Derived.BigQuiet
import Derived.Laws.CopyRow
import Derived.Laws.IdiomCopy
import Derived.Deep.MidRow
import Derived.StillTailTactics
import Derived.Deep.DeepCutAuto
import Derived.LoopTactic
import Derived.Maps.OwnSet
import Derived.Maps.RangeWalk
import Derived.DeepKeys4
import Derived.Shelf.Bytes.SlClone
import Derived.Laws.ResultCell
import Derived.Laws.Tables
import Derived.Deep.RegionHeldLaw
namespace Go.Proofs.YtdmogppkambgaaaDoor

/-- What a heap keeps: the first part's head, the bytes, which of them have come, and whether the end has. -/
structure Hv where
  f : Ip
  bs : List UInt8
  th : List Bool
  en : Bool
def headOf (l : List Ip) : Ip := match l.find? (fun x => decide (x.off = 0)) with | some f => { f with b := [] } | none => ⟨0, 0, false, false, 0, 0, 0, 0, 0, []⟩
structure HvOk (v : Hv) (l : List Ip) : Prop where
  len : v.th.length = v.bs.length
  right : ∀ y ∈ l, y.bad = 0 ∧ ¬ Alone y
  reach : ∀ y ∈ l, y.off + (y.b.length : Int) ≤ v.bs.length
  far : v.bs.length = 0 ∨ ∃ y ∈ l, y.off + (y.b.length : Int) = v.bs.length
  there : ∀ k : Nat, v.th[k]? = some true ↔ ∃ y ∈ l, covers y (k : Int)
  byte : ∀ y ∈ l, ∀ k : Nat, covers y (k : Int) → v.bs[k]? = y.b[((k : Int) - y.off).toNat]?
  en : v.en = true ↔ ∃ y ∈ l, y.mf = false
  last : ∀ y ∈ l, y.mf = false → y.off + (y.b.length : Int) = v.bs.length
  head : v.f = headOf l
def Hv.zero : Hv := ⟨⟨0, 0, false, false, 0, 0, 0, 0, 0, []⟩, [], [], false⟩
theorem HvOk.zero : HvOk Hv.zero [] := ⟨rfl, by simp, by simp, .inl rfl, by simp [Hv.zero], by simp, by simp [Hv.zero], by simp, rfl⟩
/-- Whether a part says nothing else than those that are kept. -/
structure Hv.Goes (v : Hv) (p : Ip) : Prop where
  a : v.en = true → p.off + (p.b.length : Int) ≤ v.bs.length
  b : p.mf = false → (v.bs.length : Int) ≤ p.off + p.b.length
  c : ∀ i, i < p.b.length → v.th[p.off.toNat + i]? = some true → v.bs[p.off.toNat + i]? = p.b[i]?
theorem HvOk.goes {v : Hv} {l : List Ip} {p : Ip} (h : HvOk v l) (hp : p.bad = 0) : v.Goes p ↔ ∀ y ∈ l, goesT y p := by
  have hR := (Ip.right_iff p).1 hp
  have h0 := hR.off0
  constructor
  · intro hg y hy
    refine ⟨fun k k1 k2 => ?_, fun hm => ?_, fun hm => ?_⟩
    · have hy0 := ((Ip.right_iff y).1 (h.right y hy).1).off0
      have hk : k = (k.toNat : Int) := by unfold covers at k1; omega
      rw [hk] at k1 k2 ⊢
      generalize k.toNat = n at k1 k2 ⊢
      have h1 := h.byte y hy n k1
      rw [← h1]
      unfold covers at k2
      have e : n = p.off.toNat + (n - p.off.toNat) := by omega
      have h2 := hg.c (n - p.off.toNat) (by omega) (by rw [← e]; exact (h.there n).2 ⟨y, hy, k1⟩)
      rw [← e] at h2
      rw [h2]
      congr 1
      omega
    · have := hg.a (h.en.2 ⟨y, hy, hm⟩)
      have := h.last y hy hm
      omega
    · have := hg.b hm
      have := h.reach y hy
      omega
  · intro hg
    refine ⟨fun he => ?_, fun hm => ?_, fun i hi ht => ?_⟩
    · obtain ⟨y, hy, hm⟩ := h.en.1 he
      have := (hg y hy).2.1 hm
      have := h.last y hy hm
      omega
    · rcases h.far with h1 | ⟨y, hy, h1⟩
      · omega
      · have := (hg y hy).2.2 hm
        omega
    · obtain ⟨y, hy, hc⟩ := (h.there _).1 ht
      rw [h.byte y hy _ hc, (hg y hy).1 _ hc (by unfold covers; omega)]
      congr 1
      omega
/-- A row made longer. -/
def growL {α : Type} (l : List α) (d : α) (e : Nat) : List α := l ++ List.replicate (e - l.length) d
theorem growL_len {α : Type} (l : List α) (d : α) (e : Nat) : (growL l d e).length = max l.length e := by
  unfold growL
  rw [List.length_append, List.length_replicate]
  omega
theorem growL_get {α : Type} (l : List α) (d : α) (e k : Nat) (h : k < l.length) : (growL l d e)[k]? = l[k]? := by
  unfold growL
  rw [List.getElem?_append_left h]
theorem growL_new {α : Type} (l : List α) (d : α) (e k : Nat) (h : l.length ≤ k) (h2 : k < e) : (growL l d e)[k]? = some d := by
  unfold growL
  rw [List.getElem?_append_right h, List.getElem?_replicate_of_lt (by omega)]
/-- Some written over. -/
def layL {α : Type} (l : List α) (o : Nat) (x : List α) : List α := l.take o ++ (x ++ l.drop (o + x.length))
theorem layL_len {α : Type} {l x : List α} {o : Nat} (h : o + x.length ≤ l.length) : (layL l o x).length = l.length := by
  unfold layL
  simp only [List.length_append, List.length_take, List.length_drop]
  omega
theorem layL_in {α : Type} {l x : List α} {o k : Nat} (h : o + x.length ≤ l.length) (h1 : o ≤ k) (h2 : k < o + x.length) : (layL l o x)[k]? = x[k - o]? := by
  unfold layL
  rw [List.getElem?_append_right (by rw [List.length_take]; omega), List.length_take, Nat.min_eq_left (by omega), List.getElem?_append_left (by omega)]
theorem layL_out {α : Type} {l x : List α} {o k : Nat} (h : o + x.length ≤ l.length) (h1 : k < o ∨ o + x.length ≤ k) : (layL l o x)[k]? = l[k]? := by
  unfold layL
  by_cases h2 : k < o
  · rw [List.getElem?_append_left (by rw [List.length_take]; omega), List.getElem?_take_of_lt h2]
  · rw [List.getElem?_append_right (by rw [List.length_take]; omega), List.length_take, Nat.min_eq_left (by omega), List.getElem?_append_right (by omega), List.getElem?_drop]
    congr 1
    omega
/-- Some set, one by one. -/
def setN (t : List Bool) (o : Nat) : Nat → List Bool
  | 0 => t
  | i + 1 => (setN t o i).set (o + i) true
theorem setN_len (t : List Bool) (o : Nat) : ∀ i, (setN t o i).length = t.length
  | 0 => rfl
  | i + 1 => by show ((setN t o i).set (o + i) true).length = _; rw [List.length_set, setN_len t o i]
theorem setN_get (t : List Bool) (o k : Nat) : ∀ i, o + i ≤ t.length → (setN t o i)[k]? = if o ≤ k ∧ k < o + i then some true else t[k]?
  | 0, _ => by rw [if_neg (by omega)]; rfl
  | i + 1, h => by
    show ((setN t o i).set (o + i) true)[k]? = _
    rw [List.getElem?_set, setN_get t o k i (by omega), setN_len]
    by_cases h1 : o + i = k
    · rw [if_pos h1, if_pos (by omega), if_pos (by omega)]
    · rw [if_neg h1]
      by_cases h2 : o ≤ k ∧ k < o + i
      · rw [if_pos h2, if_pos (by omega)]
      · rw [if_neg h2, if_neg (by omega)]
theorem count_set {t : List Bool} {k : Nat} (h : k < t.length) : (t.set k true).count true = t.count true + (if t[k]? = some true then 0 else 1) := by
  induction t generalizing k with
  | nil => simp at h
  | cons x t ih =>
    cases k with
    | zero => cases x <;> simp
    | succ k =>
      rw [List.set_cons_succ, List.count_cons, List.count_cons, ih (by simpa using h), List.getElem?_cons_succ]
      omega
theorem count_all {t : List Bool} : t.count true = t.length ↔ ∀ k, k < t.length → t[k]? = some true := by
  rw [List.count_eq_length]
  constructor
  · intro h k hk
    rw [List.getElem?_eq_getElem hk]
    congr 1
    exact (h _ (List.getElem_mem hk)).symm
  · intro h b hb
    obtain ⟨k, hk, rfl⟩ := List.mem_iff_getElem.1 hb
    have := h k hk
    rw [List.getElem?_eq_getElem hk] at this
    exact (Option.some.inj this).symm
theorem setN_next {t : List Bool} {o i : Nat} (h : o + i < t.length) : (setN t o (i + 1)).count true = (setN t o i).count true + (if t[o + i]? = some true then 0 else 1) ∧ (setN t o i)[o + i]? = t[o + i]? := by
  have h1 : (setN t o i)[o + i]? = t[o + i]? := by rw [setN_get t o _ i (by omega), if_neg (by omega)]
  refine ⟨?_, h1⟩
  show ((setN t o i).set (o + i) true).count true = _
  rw [count_set (by rw [setN_len]; exact h), h1]
/-- What is kept behind one part more. -/
def Hv.add (v : Hv) (p : Ip) : Hv :=
  ⟨if p.off = 0 ∧ v.th[0]? ≠ some true then { p with b := [] } else v.f, layL (growL v.bs 0 (p.off.toNat + p.b.length)) p.off.toNat p.b, setN (growL v.th false (p.off.toNat + p.b.length)) p.off.toNat p.b.length, v.en || !p.mf⟩
theorem headOf_snoc (l : List Ip) (p : Ip) : headOf (l ++ [p]) = if (∃ y ∈ l, y.off = 0) then headOf l else if p.off = 0 then { p with b := [] } else headOf l := by
  unfold headOf
  rw [List.find?_append]
  cases h : l.find? (fun x => decide (x.off = 0)) with
  | some f =>
    rw [if_pos ⟨f, List.mem_of_find?_eq_some h, by simpa using List.find?_some h⟩]
    rfl
  | none =>
    rw [if_neg (by
      rintro ⟨y, hy, h0⟩
      have := List.find?_eq_none.1 h y hy
      simp [h0] at this)]
    by_cases h0 : p.off = 0
    · simp [h0]
    · simp [h0]
theorem HvOk.add {v : Hv} {l : List Ip} {p : Ip} (h : HvOk v l) (hp : p.bad = 0) (ha : ¬ Alone p) (hg : v.Goes p) : HvOk (v.add p) (l ++ [p]) := by
  have hR := (Ip.right_iff p).1 hp
  have h0 := hR.off0
  have hgo := (h.goes hp).1 hg
  obtain ⟨o, ho⟩ : ∃ o : Nat, p.off = o := ⟨p.off.toNat, by omega⟩
  have hot : p.off.toNat = o := by omega
  have lb := growL_len v.bs 0 (o + p.b.length)
  have lt := growL_len v.th false (o + p.b.length)
  have hL : (v.add p).bs.length = max v.bs.length (o + p.b.length) := by
    show (layL (growL v.bs 0 (p.off.toNat + p.b.length)) p.off.toNat p.b).length = _
    rw [hot, layL_len (by omega), lb]
  have mem : ∀ {y}, y ∈ l ++ [p] ↔ y ∈ l ∨ y = p := by simp
  have hcp : ∀ k : Nat, covers p (k : Int) ↔ o ≤ k ∧ k < o + p.b.length := fun k => by unfold covers; omega
  refine ⟨?_, fun y hy => ?_, fun y hy => ?_, ?_, fun k => ?_, fun y hy k hk => ?_, ?_, fun y hy hm => ?_, ?_⟩
  · rw [hL]
    show (setN (growL v.th false (p.off.toNat + p.b.length)) p.off.toNat p.b.length).length = _
    rw [setN_len, hot, lt, h.len]
  · rcases mem.1 hy with hy | rfl
    · exact h.right y hy
    · exact ⟨hp, ha⟩
  · rw [hL]
    rcases mem.1 hy with hy | rfl
    · have := h.reach y hy; omega
    · omega
  · rw [hL]
    by_cases hm : v.bs.length ≤ o + p.b.length
    · exact .inr ⟨p, mem.2 (.inr rfl), by omega⟩
    · rcases h.far with h1 | ⟨y, hy, h1⟩
      · omega
      · exact .inr ⟨y, mem.2 (.inl hy), by omega⟩
  · show (setN (growL v.th false (p.off.toNat + p.b.length)) p.off.toNat p.b.length)[k]? = some true ↔ _
    rw [hot, setN_get _ _ _ _ (by omega)]
    by_cases hk : o ≤ k ∧ k < o + p.b.length
    · rw [if_pos hk]
      exact ⟨fun _ => ⟨p, mem.2 (.inr rfl), (hcp k).2 hk⟩, fun _ => rfl⟩
    · rw [if_neg hk]
      by_cases hl : k < v.th.length
      · rw [growL_get _ _ _ _ hl, h.there k]
        constructor
        · rintro ⟨y, hy, hc⟩
          exact ⟨y, mem.2 (.inl hy), hc⟩
        · rintro ⟨y, hy, hc⟩
          rcases mem.1 hy with hy | rfl
          · exact ⟨y, hy, hc⟩
          · exact absurd ((hcp k).1 hc) hk
      · have hn : (growL v.th false (o + p.b.length))[k]? ≠ some true := by
          by_cases h2 : k < o + p.b.length
          · rw [growL_new _ _ _ _ (by omega) h2]; simp
          · rw [List.getElem?_eq_none (by omega)]; simp
        refine ⟨fun e => absurd e hn, ?_⟩
        rintro ⟨y, hy, hc⟩
        rcases mem.1 hy with hy | rfl
        · have := (List.getElem?_eq_some_iff.1 ((h.there k).2 ⟨y, hy, hc⟩)).1
          omega
        · exact absurd ((hcp k).1 hc) hk
  · show (layL (growL v.bs 0 (p.off.toNat + p.b.length)) p.off.toNat p.b)[k]? = _
    rw [hot]
    by_cases hk2 : o ≤ k ∧ k < o + p.b.length
    · rw [layL_in (by omega) hk2.1 hk2.2]
      rcases mem.1 hy with hy | rfl
      · rw [(hgo y hy).1 k hk ((hcp k).2 hk2)]
        congr 1
        omega
      · congr 1
        omega
    · rw [layL_out (by omega) (by omega)]
      rcases mem.1 hy with hy | rfl
      · have := (List.getElem?_eq_some_iff.1 ((h.there k).2 ⟨y, hy, hk⟩)).1
        rw [growL_get _ _ _ _ (by rw [← h.len]; exact this), h.byte y hy k hk]
      · exact absurd ((hcp k).1 hk) hk2
  · show (v.en || !p.mf) = true ↔ _
    rw [Bool.or_eq_true, h.en]
    constructor
    · rintro (⟨y, hy, hm⟩ | hm)
      · exact ⟨y, mem.2 (.inl hy), hm⟩
      · exact ⟨p, mem.2 (.inr rfl), by simpa using hm⟩
    · rintro ⟨y, hy, hm⟩
      rcases mem.1 hy with hy | rfl
      · exact .inl ⟨y, hy, hm⟩
      · exact .inr (by simp [hm])
  · rw [hL]
    rcases mem.1 hy with hy | rfl
    · have := h.last y hy hm
      have := (hgo y hy).2.1 hm
      omega
    · have := hg.b hm
      omega
  · rw [headOf_snoc]
    have hth : v.th[0]? = some true ↔ ∃ y ∈ l, y.off = 0 := by
      rw [h.there 0]
      constructor
      · rintro ⟨y, hy, hc⟩
        have := ((Ip.right_iff y).1 (h.right y hy).1).off0
        exact ⟨y, hy, by unfold covers at hc; omega⟩
      · rintro ⟨y, hy, hc⟩
        obtain ⟨h1, h2⟩ := h.right y hy
        have hm : y.mf = true := by
          cases e : y.mf
          · exact absurd ⟨hc, e⟩ h2
          · rfl
        have := ((Ip.right_iff y).1 h1).mf hm
        exact ⟨y, hy, by unfold covers; omega⟩
    show (if p.off = 0 ∧ v.th[0]? ≠ some true then { p with b := [] } else v.f) = _
    rw [h.head]
    by_cases he : ∃ y ∈ l, y.off = 0
    · rw [if_pos he, if_neg (fun e => e.2 (hth.2 he))]
    · rw [if_neg he]
      by_cases h3 : p.off = 0
      · rw [if_pos h3, if_pos ⟨h3, fun e => he (hth.1 e)⟩]
      · rw [if_neg h3, if_neg (fun e => h3 e.1)]
theorem HvOk.far0 {v : Hv} {l : List Ip} (h : HvOk v l) : v.bs.length ≤ 65515 := by
  rcases h.far with h1 | ⟨y, hy, h1⟩
  · omega
  · have := ((Ip.right_iff y).1 (h.right y hy).1).far
    omega
theorem HvOk.whole {v : Hv} {l : List Ip} (h : HvOk v l) : (v.en = true ∧ v.th.count true = v.bs.length) ↔ Full l := by
  rw [← h.len, count_all]
  constructor
  · rintro ⟨he, hc⟩
    obtain ⟨z, hz, hm⟩ := h.en.1 he
    refine ⟨v.bs.length, ⟨z, hz, hm, h.last z hz hm⟩, fun k k0 k1 => ?_⟩
    obtain ⟨y, hy, hy2⟩ := (h.there k.toNat).1 (hc _ (by rw [h.len]; omega))
    exact ⟨y, hy, by rwa [show ((k.toNat : Nat) : Int) = k by omega] at hy2⟩
  · rintro ⟨E, ⟨z, hz, hm, hE⟩, hf⟩
    have := h.last z hz hm
    refine ⟨h.en.2 ⟨z, hz, hm⟩, fun k hk => ?_⟩
    obtain ⟨y, hy, hc⟩ := hf k (by omega) (by rw [h.len] at hk; omega)
    exact (h.there k).2 ⟨y, hy, hc⟩
/-- What is told of a heap that is whole. -/
def Hv.told (v : Hv) : Ip := { v.f with off := 0, mf := false, b := v.bs }
theorem HvOk.isWhole {v : Hv} {l : List Ip} (h : HvOk v l) (hw : v.en = true ∧ v.th.count true = v.bs.length) : IsWhole l v.told := by
  obtain ⟨he, hc⟩ := hw
  rw [← h.len, count_all] at hc
  obtain ⟨z, hz, hm⟩ := h.en.1 he
  have hzl := h.last z hz hm
  have hfill : filled l v.bs.length := fun k k0 k1 => by
    obtain ⟨y, hy, hy2⟩ := (h.there k.toNat).1 (hc _ (by rw [h.len]; omega))
    exact ⟨y, hy, by rwa [show ((k.toNat : Nat) : Int) = k by omega] at hy2⟩
  refine ⟨⟨⟨z, hz, hm, hzl⟩, hfill⟩, ?_, fun y hy k hk hlt => ?_⟩
  · have hz0 := ((Ip.right_iff z).1 (h.right z hz).1).off0
    have hz1 : z.off ≠ 0 := fun e => (h.right z hz).2 ⟨e, hm⟩
    obtain ⟨y, hy, hyc⟩ := hfill 0 (by omega) (by omega)
    have hy0 := ((Ip.right_iff y).1 (h.right y hy).1).off0
    have hye : y.off = 0 := by unfold covers at hyc; omega
    cases e : l.find? (fun x => decide (x.off = 0)) with
    | none =>
      have := List.find?_eq_none.1 e y hy
      simp [hye] at this
    | some f =>
      refine ⟨f, rfl, ?_⟩
      show ({ v.f with off := 0, mf := false, b := v.bs } : Ip) = _
      rw [h.head]
      unfold headOf
      rw [e]
      rfl
  · have hy0 := ((Ip.right_iff y).1 (h.right y hy).1).off0
    have e : ((k.toNat : Nat) : Int) = k := by unfold covers at hk; omega
    have := h.byte y hy k.toNat (by rw [e]; exact hk)
    rw [e] at this
    exact this
end Go.Proofs.YtdmogppkambgaaaDoor
namespace Go.Proofs.YtdmogppkambgaaaDoor

section
variable {P : Program} (w : World)
theorem zeroCells_one (z : Value) (hz : z.cells = #[z]) (n : Nat) : Builtin.zeroCells z.cells n = (List.replicate n z).toArray := by
  rw [hz]
  apply Array.ext'
  apply List.ext_getElem
  · simp [Builtin.zeroCells]
  · intro i h1 h2
    have : i % 1 = 0 := Nat.mod_one i
    simp [Builtin.zeroCells, this]
theorem run_append_zeros (base : Nat) (t ti ty e : TypeId) (i : TypeInfo) (z : Value) (q : IntKind) (ht : P.underlying t = some (.slice e)) (hti : P.underlying ti = some (.int q)) (hi : P.info? e = some i) (hz : i.zero = some z)
    (hsize : i.size = 1) (hby : i.bytes = 1) (hzs : z.cells = #[z]) (hz1 : z.oneCell' = true)
    (v : Value) (n : Nat) (xs : List Value) (hown : w.ownsRow base e 1 v n xs) (m : Nat) (hfew : n + m ≤ 1099511627776) (hbase : base ≤ w.heap.size) :
    ∃ v' w', (Builtin.append_ #[t, ti] ty #[v, .int .i64 (m : Int)]).run P w = .ok v' w' ∧ w'.ownsRow base e 1 v' (n + m) (xs ++ List.replicate m z) ∧ w.grownBy w' v.ownBlock ∧ (∀ g, v'.ownBlock = some g → v.ownBlock = some g ∨ g = w.heap.size) := by
  have hwrap : IntKind.i64.wrap (m : Int) = m := by rw [IntKind.wrap_i64]; omega
  have hm0 : ¬ ((m : Int) < 0) := by omega
  have hm48 : ¬ ((281474976710656 : Int) < (m : Int)) := by omega
  have h63 : n + m ≤ maxLen := by simp only [maxLen]; omega
  have hlen : (xs ++ List.replicate m z).length = (n + m) * 1 := by rw [List.length_append, hown.1, List.length_replicate]; omega
  have zc := zeroCells_one z hzs
  have grown : ∀ (old : Nat), old < n + m → ∀ (row : Option Nat),
      (w.drew.alloc (.cells (xs.toArray ++ (List.replicate m z).toArray ++ Builtin.zeroCells z.cells (grownCap w (n + m) old e - (n + m))) e)).ownsRow base e 1
        (.slice (some ⟨w.heap.size, 0, none⟩) (n + m) (grownCap w (n + m) old e)) (n + m) (xs ++ List.replicate m z) ∧
      w.grownBy (w.drew.alloc (.cells (xs.toArray ++ (List.replicate m z).toArray ++ Builtin.zeroCells z.cells (grownCap w (n + m) old e - (n + m))) e)) row := by
    intro old ho row
    have hge := grownCap_ge w (n + m) old e
    have hcm : grownCap w (n + m) old e ≤ maxLen := grownCap_le_maxLen w (n + m) old e h63
    refine ⟨⟨hlen, .inr ⟨w.heap.size, _, _, rfl, hbase, heap_alloc_new w.drew _, hge, hcm, ?_, ?_⟩⟩, ⟨rfl, rfl, rfl, by simp, fun k hk _ => by first | exact heap_alloc_old w.drew _ k hk | exact heap_alloc_old w.drew _ hk⟩⟩
    · have := hown.1
      simp only [Array.size_append, List.size_toArray, size_zeroCells, hzs, List.length_replicate]
      simp
      omega
    · simp only [Array.toList_append, List.append_assoc]
      rw [← List.append_assoc, ← hlen]
      exact List.take_left
  have run_grow : ∀ (b : Option Addr) (c : Nat), c < n + m → m ≠ 0 → (Builtin.firstCells 1 n (.slice b n c)).run P w.drew = .ok xs.toArray w.drew →
      (Builtin.append_ #[t, ti] ty #[.slice b n c, .int .i64 (m : Int)]).run P w = .ok (.slice (some ⟨w.heap.size, 0, none⟩) (n + m) (grownCap w (n + m) c e)) (w.drew.alloc (.cells (xs.toArray ++ (List.replicate m z).toArray ++ Builtin.zeroCells z.cells (grownCap w (n + m) c e - (n + m))) e)) := by
    intro b c hc hm hf
    have hn : ¬ (n + m ≤ c) := by omega
    have h63' : ¬ (9223372036854775807 < ((n : Int) + (m : Int))) := by omega
    have h48' : ¬ (281474976710656 < Builtin.nextslicecap (n + m) c) := by have := nextslicecap_le hc; omega
    simp [Builtin.append_, run_underlying ht, run_underlying hti, sizeOf, typeInfo, zeroValue, hi, hz, hsize, hby, hn, h63', h48', Question.forced, hf, newRow, grownCap, hwrap, hm0, hm48, asInt, asIntOf, hm, zc]
  rcases hown.2 with ⟨rfl, rfl⟩ | ⟨g, cap, cur, rfl, hbg, hg, hnc, hcm, hcs, htake⟩
  · have hx : xs = [] := List.eq_nil_of_length_eq_zero (by simpa using hown.1)
    subst hx
    by_cases hm : m = 0
    · subst hm
      refine ⟨.slice none 0 0, w, ?_, World.ownsRow_nil w base e 1, ⟨rfl, rfl, rfl, Nat.le_refl _, fun _ _ _ => rfl⟩, by simp [Value.ownBlock]⟩
      obtain ⟨k, hk⟩ : ∃ k : Int, k = ((0 : Nat) : Int) := ⟨_, rfl⟩
      have k1 : IntKind.i64.wrap k = 0 := by rw [hk]; rfl
      rw [← hk]
      simp [Builtin.append_, run_underlying ht, run_underlying hti, sizeOf, typeInfo, hi, hby, asInt, asIntOf, k1]
    · have hr := run_grow none 0 (by omega) hm (run_firstCells_none w.drew 1 0 0 0)
      have hgr := grown 0 (by omega) (Value.ownBlock (.slice none 0 0))
      exact ⟨_, _, hr, hgr.1, hgr.2, by simp [Value.ownBlock]⟩
  · by_cases hroom : n + m ≤ cap
    · have hfit : n + m ≤ cur.size := by omega
      have hst := run_storeCells_at P g n e (List.replicate m z) 0 cur w hg (by rw [List.length_replicate]; omega) (fun u hu => by rw [(List.mem_replicate.1 hu).2]; exact hz1)
      simp only [Nat.add_zero] at hst
      have hxl : xs.length = n := by have := hown.1; omega
      have hr : (Builtin.append_ #[t, ti] ty #[.slice (some ⟨g, 0, none⟩) n cap, .int .i64 (m : Int)]).run P w = .ok (.slice (some ⟨g, 0, none⟩) (n + m) cap) (w.setRow g (cur.toList.take n ++ List.replicate m z ++ cur.toList.drop (n + m)).toArray) := by
        by_cases hm : m = 0
        · subst hm
          simp only [Nat.add_zero] at hroom
          simp at hst
          obtain ⟨k, hk⟩ : ∃ k : Int, k = ((0 : Nat) : Int) := ⟨_, rfl⟩
          have k1 : IntKind.i64.wrap k = 0 := by rw [hk]; rfl
          rw [← hk]
          simp [Builtin.append_, run_underlying ht, run_underlying hti, sizeOf, typeInfo, zeroValue, hi, hz, hsize, hby, hroom, Addr.add_lit, asInt, asIntOf, k1, hst]
        · simp at hst
          simp [Builtin.append_, run_underlying ht, run_underlying hti, sizeOf, typeInfo, zeroValue, hi, hz, hsize, hby, hroom, hwrap, hm0, hm48, asInt, asIntOf, hm, zc, Addr.add_lit, hst]
      refine ⟨_, _, hr, ⟨hlen, .inr ⟨g, cap, _, rfl, hbg, setRow_heap w g cur _ e _ hg, hroom, hcm, ?_, ?_⟩⟩, ⟨rfl, rfl, rfl, by simp, fun k _ hk => Go.setRow_other w g k _ (fun e => hk (by simp [Value.ownBlock, e]))⟩, fun g' h => .inl (by simpa [Value.ownBlock] using h)⟩
      · simp only [List.size_toArray, List.length_append, List.length_take, List.length_drop, List.length_replicate, Array.length_toList]
        omega
      · have ht2 : cur.toList.take n = xs := by rw [← htake]; congr 1; omega
        rw [ht2, ← hlen]
        exact List.take_left
    · have holds : ∀ j u, xs[j]? = some u → w.drew.cell? ((⟨g, 0, none⟩ : Addr).add j) = some u := hown.cells (g := g) rfl
      have hr := run_grow (some ⟨g, 0, none⟩) cap (by omega) (by omega) (run_firstCells_some w.drew 1 n ⟨g, 0, none⟩ n cap xs (by have := hown.1; omega) holds)
      have hgr := grown cap (by omega) (Value.ownBlock (.slice (some ⟨g, 0, none⟩) n cap))
      exact ⟨_, _, hr, hgr.1, hgr.2, by simp [Value.ownBlock]⟩
end
end Go.Proofs.YtdmogppkambgaaaDoor
namespace Go.Proofs.YtdmogppkambgaaaDoor
open Go.RowKit

def heapRow (t : Int) (f : Ip) (bv tv : Value) (n : Nat) (en : Bool) : Array Value :=
  #[.int .u64 t, .int .u8 f.tos, .int .u16 f.id, .bool f.df, .bool f.mf, .int .i64 f.off, .int .u8 f.ttl, .int .u8 f.proto, .int .u32 f.src, .int .u32 f.dst, .slice none 0 0, bv, tv, .int .i64 n, .bool en]
structure HeapAt (w : World) (G : Nat → Prop) (g : Nat) (t : Int) (v : Hv) (bv tv : Value) : Prop where
  row : w.heap[g]? = some (.cells (heapRow t v.f bv tv (v.th.count true) v.en) 99 (0, 0))
  b : w.ownsRow 0 5 1 bv v.bs.length (v.bs.map B8)
  bown : ∀ k, bv.ownBlock = some k → G k
  t : w.ownsRow 0 4 1 tv v.th.length (v.th.map Value.bool)
  town : ∀ k, tv.ownBlock = some k → G k
  g : G g
/-- The heap at g, all of which lies in the blocks G. -/
structure Heap (w : World) (G : Nat → Prop) (g : Nat) (t : Int) (v : Hv) : Prop where
  row : ∃ bv tv, HeapAt w G g t v bv tv
  lt : ∀ k, G k → k < w.heap.size
section
variable {w w' : World} {G : Nat → Prop} {g : Nat} {t : Int} {v : Hv} {bv tv : Value}
theorem owns_at {B : Nat} {e : TypeId} {s : Nat} {v : Value} {k : Nat} {xs : List Value} (h : w.ownsRow B e s v k xs) (hv : ∀ g, v.ownBlock = some g → w'.heap[g]? = w.heap[g]?) : w'.ownsRow B e s v k xs := by
  refine ⟨h.1, ?_⟩
  rcases h.2 with h1 | ⟨g, cap, cur, rfl, hb, hg, r⟩
  · exact .inl h1
  · exact .inr ⟨g, cap, cur, rfl, hb, (hv g rfl).trans hg, r⟩
theorem own_shape {B : Nat} {e : TypeId} {v : Value} {n : Nat} {xs : List Value} (h : w.ownsRow B e 1 v n xs) : ∃ A c, v = .slice A n c ∧ n ≤ c ∧ c ≤ 9223372036854775807 ∧ ∀ (k : Nat) u, xs[k]? = some u → ∃ g, A = some ⟨g, 0, none⟩ ∧ v.ownBlock = some g ∧ w.cell? ⟨g, k, none⟩ = some u := by
  rcases h.2 with ⟨rfl, rfl⟩ | ⟨g, c, cur, rfl, _, hg, h1, h2, _, h4⟩
  · have hx : xs = [] := List.eq_nil_of_length_eq_zero (by simpa using h.1)
    subst hx
    exact ⟨none, 0, rfl, Nat.le_refl _, by omega, fun k u hu => by cases hu⟩
  · refine ⟨_, c, rfl, h1, by simp only [maxLen] at h2; omega, fun k u hu => ⟨g, rfl, rfl, ?_⟩⟩
    rw [← h4] at hu
    have hk := (List.getElem?_eq_some_iff.1 hu).1
    rw [List.length_take] at hk
    rw [List.getElem?_take_of_lt (by omega), Array.getElem?_toList] at hu
    rw [cell_of_row w g k _ _ _ hg]
    exact hu
theorem HeapAt.at (h : HeapAt w G g t v bv tv) (hk : ∀ k, G k → w'.heap[k]? = w.heap[k]?) : HeapAt w' G g t v bv tv :=
  ⟨(hk g h.g).trans h.row, owns_at h.b (fun k e => hk k (h.bown k e)), h.bown, owns_at h.t (fun k e => hk k (h.town k e)), h.town, h.g⟩
theorem Heap.at (h : Heap w G g t v) (hk : ∀ k, G k → w'.heap[k]? = w.heap[k]?) (hs : w.heap.size ≤ w'.heap.size) : Heap w' G g t v := by
  obtain ⟨bv, tv, h1⟩ := h.row
  exact ⟨⟨bv, tv, h1.at hk⟩, fun k hG => Nat.lt_of_lt_of_le (h.lt k hG) hs⟩
theorem Heap.below (h : Heap w G g t v) (hb : Below w.heap.size w w') : Heap w' G g t v := h.at (fun k hG => hb.block k (h.lt k hG)) hb.size
theorem HeapAt.cell (h : HeapAt w G g t v bv tv) (k : Nat) : w.cell? ⟨g, k, none⟩ = (heapRow t v.f bv tv (v.th.count true) v.en)[k]? := cell_of_row w g k _ _ _ h.row
end
theorem drew_belowH (w : World) (n : Nat) : Below w.heap.size w (w.drewN n) := ⟨rfl, rfl, rfl, Nat.le_refl _, fun _ _ => rfl⟩

set_option maxRecDepth 100000 in
set_option maxHeartbeats 1000000 in
theorem has_any (i : Nat) (_ : i ≤ 9223372036854775807) {w : World} {G : Nat → Prop} {g : Nat} {t : Int} {v : Hv} {bv tv : Value} (h : HeapAt w G g t v bv tv) :
    Calls Tryd.prog 58 #[.pointer (some ⟨g, 0, none⟩), .int .i64 (i : Int)] w fun e w' => e = .returned (.bool (decide (v.th[i]? = some true))) ∧ w' = w := by
  obtain ⟨A, c, rfl, h1, h2, h3⟩ := own_shape h.t
  have c12 : w.cell? ⟨g, 12, none⟩ = some (.slice A v.th.length c) := h.cell 12
  obtain ⟨th, hth⟩ : ∃ th, v.th = th := ⟨_, rfl⟩
  rw [hth] at c12 h3 ⊢
  clear h hth
  by_cases hlt : i < th.length
  · obtain ⟨x, hx⟩ : ∃ x, th[i]? = some x := ⟨th[i], List.getElem?_eq_getElem hlt⟩
    obtain ⟨gt, rfl, _, ci⟩ := h3 i (.bool x) (by simp [hx])
    have q1 : decide ((i : Int) < (th.length : Int)) = true := decide_eq_true (by omega)
    obtain ⟨d, hd⟩ : ∃ d, decide (th[i]? = some true) = d := ⟨_, rfl⟩
    have hxd : x = d := by rw [← hd, hx]; cases x <;> rfl
    rw [hd]
    subst hxd
    clear hd hx h3
    obtain ⟨N, hN⟩ : ∃ N, th.length = N := ⟨_, rfl⟩
    rw [hN] at c12 q1 hlt
    clear hN
    go_enter Tryd.func58, Tryd.ntmps58
    go_wp2_with fail
    go_ret
    exact ⟨rfl, rfl⟩
  · have q1 : decide ((i : Int) < (th.length : Int)) = false := decide_eq_false (by omega)
    have hd : decide (th[i]? = some true) = false := by rw [List.getElem?_eq_none (by omega)]; rfl
    rw [hd]
    clear hd h3
    obtain ⟨N, hN⟩ : ∃ N, th.length = N := ⟨_, rfl⟩
    rw [hN] at c12 q1 hlt
    clear hN h1
    go_enter Tryd.func58, Tryd.ntmps58
    go_wp2_with fail
    go_ret
    exact ⟨rfl, rfl⟩

set_option maxRecDepth 100000 in
set_option maxHeartbeats 1000000 in
theorem hage_any (now : Int) (hn : UW now) {w : World} {G : Nat → Prop} {g : Nat} {t : Int} (htw : UW t) {v : Hv} {bv tv : Value} (h : HeapAt w G g t v bv tv) :
    Calls Tryd.prog 55 #[.pointer (some ⟨g, 0, none⟩), .int .u64 now] w fun e w' => e = .returned (.int .u64 (if now < t then 0 else now - t)) ∧ w' = w := by
  have c0 : w.cell? ⟨g, 0, none⟩ = some (.int .u64 t) := h.cell 0
  clear h
  unfold UW at hn htw
  by_cases hlt : now < t
  · have q1 : decide (now < t) = true := decide_eq_true hlt
    rw [if_pos hlt]
    have HL := Lib.hid hlt
    clear hlt
    go_enter Tryd.func55, Tryd.ntmps55
    go_wp2_with fail
    go_ret
    exact ⟨rfl, rfl⟩
  · have q1 : decide (now < t) = false := decide_eq_false hlt
    rw [if_neg hlt]
    have q2 : IntKind.u64.wrap (now - t) = now - t := by rw [IntKind.wrap_u64]; omega
    have HL := Lib.hid hlt
    clear hlt
    go_enter Tryd.func55, Tryd.ntmps55
    go_wp2_with fail
    go_ret
    exact ⟨rfl, rfl⟩

set_option maxRecDepth 100000 in
set_option maxHeartbeats 1000000 in
theorem hwhole_any {w : World} {G : Nat → Prop} {g : Nat} {t : Int} {v : Hv} {bv tv : Value} (h : HeapAt w G g t v bv tv) :
    Calls Tryd.prog 46 #[.pointer (some ⟨g, 0, none⟩)] w fun e w' => e = .returned (.bool (decide (v.en = true ∧ v.th.count true = v.bs.length))) ∧ Below w.heap.size w w' := by
  obtain ⟨A, c, rfl, h1, h2, h3⟩ := own_shape h.b
  have c11 : w.cell? ⟨g, 11, none⟩ = some (.slice A v.bs.length c) := h.cell 11
  have c13 : w.cell? ⟨g, 13, none⟩ = some (.int .i64 (v.th.count true : Nat)) := h.cell 13
  have c14 : w.cell? ⟨g, 14, none⟩ = some (.bool v.en) := h.cell 14
  have HB := Lib.hid (Below.refl w.heap.size w)
  clear h h3
  obtain ⟨n, hn⟩ : ∃ n, v.th.count true = n := ⟨_, rfl⟩
  obtain ⟨N, hN⟩ : ∃ N, v.bs.length = N := ⟨_, rfl⟩
  obtain ⟨en, hen⟩ : ∃ en, v.en = en := ⟨_, rfl⟩
  rw [hn, hN, hen]
  rw [hn] at c13
  rw [hN] at c11 h1
  rw [hen] at c14
  clear hn hN hen
  obtain ⟨d, hd⟩ : ∃ d, decide (en = true ∧ n = N) = d := ⟨_, rfl⟩
  rw [hd]
  have q1 : en = true → ((n : Int) == (N : Int)) = d := fun he => by
    rw [← hd, he]
    by_cases h : n = N
    · rw [decide_eq_true ⟨rfl, h⟩]; simp [h]
    · rw [decide_eq_false (fun e => h e.2), beq_eq_false_iff_ne]; omega
  have q2 : en = false → d = false := fun he => by rw [← hd, he]; simp
  clear hd
  cases en with
  | true =>
    have q1 := q1 rfl
    clear q2
    go_enter Tryd.func46, Tryd.ntmps46
    go_upto_region 1 with fail
    go_quiet (fail)
    go_wp2_with fail
    go_ret
    exact ⟨rfl, HB.out.trans (drew_belowH _ _)⟩
  | false =>
    obtain rfl := q2 rfl
    clear q1 q2
    go_enter Tryd.func46, Tryd.ntmps46
    go_upto_region 1 with fail
    go_quiet (fail)
    go_wp2_with fail
    go_ret
    exact ⟨rfl, HB.out.trans (drew_belowH _ _)⟩
end Go.Proofs.YtdmogppkambgaaaDoor
namespace Go.Proofs.YtdmogppkambgaaaDoor
open Go.RowKit

theorem max_run {P : Program} (ats : Array TypeId) (ty : TypeId) (a b k : Int) (h : k = max a b) (W : World) : (Builtin.max_ ats ty #[.int .i64 a, .int .i64 b]).run P W = .ok (.int .i64 k) W := by
  subst h
  by_cases hba : a < b
  · simp [Builtin.max_, Builtin.max2, hba]
    omega
  · simp [Builtin.max_, Builtin.max2, hba]
    omega
theorem wpList_append_run {P : Program} {w : World} {ops : Array Oper} {rest : List Oper} {o : Oper} {a : Act} {Q : Exit → Act → World → Prop} (hgd : o.guard = none) (s x : Operand) (t u : TypeId)
    (ho : o.op = .call { callee := .builtin .append, args := #[s, x], argTypes := #[t, u] }) (v1 v2 : Value) (hs : a.eval s = v1) (hx : a.eval x = v2) (v' : Value) (w' : World)
    (hrun : (Builtin.append_ #[t, u] o.type #[v1, v2]).run P w = .ok v' w') (h : wpList P ops Q rest (a.put o.dst v') w') : wpList P ops Q (o :: rest) a w := by
  refine wpList_plain hgd fun K hK => ?_
  unfold Oper.wp execOp
  simp only [ho, resolve, invoke, builtin, Sem.run_bind, Sem.run_pure, Result.andThen_ok, List.map_toArray, List.map_cons, List.map_nil, hs, hx, hrun]
  exact hK _ _ h
section
variable {w w' w'' : World} {G G' F F' F'' : Nat → Prop} {g : Nat} {t : Int} {v : Hv} {bv tv bv' tv' : Value}
theorem Did.refl (w : World) (F : Nat → Prop) : Did w w F F := ⟨rfl, rfl, rfl, Nat.le_refl _, fun _ _ _ => rfl, fun _ h => .inl h⟩
theorem Did.of_below (h : Below w.heap.size w w') : Did w w' F F := ⟨h.os, h.tape, h.output, h.size, fun k hk _ => h.block k hk, fun _ hk => .inl hk⟩
theorem Did.trans (h : Did w w' F F') (k : Did w' w'' F' F'') : Did w w'' F F'' :=
  ⟨k.os.trans h.os, k.tape.trans h.tape, k.output.trans h.output, Nat.le_trans h.size k.size,
   fun i hi hn => (k.block i (Nat.lt_of_lt_of_le hi h.size) (fun hF => by rcases h.new i hF with h1 | h1 <;> first | exact hn h1 | omega)).trans (h.block i hi hn),
   fun i hi => by
     rcases k.new i hi with h1 | h1
     · exact h.new i h1
     · exact .inr (Nat.le_trans h.size h1)⟩
theorem Did.set (w : World) (g i : Nat) (v : Value) (hg : F g) : Did w (w.setCell ⟨g, i, none⟩ v) F F :=
  ⟨rfl, rfl, rfl, by simp, fun k _ hn => heap_setCell_other w ⟨g, i, none⟩ k v (fun e => hn (e ▸ hg)), fun _ h => .inl h⟩
theorem Did.grown {q : Option Nat} (h : w.grownBy w' q) (hq : ∀ k, q = some k → F k) : Did w w' F F :=
  ⟨h.os, h.tape, h.output, h.size, fun k hk hn => h.block k hk (fun e => hn (hq k e.symm)), fun _ h => .inl h⟩
theorem Did.wide (h : Did w w' F F') (hF : ∀ k, F'' k → F k ∨ w.heap.size ≤ k) : Did w w' F F'' := ⟨h.os, h.tape, h.output, h.size, h.block, hF⟩
theorem Did.more (h : Did w w' F F') {H : Nat → Prop} (hF : ∀ k, F k → H k) : Did w w' H (fun k => H k ∨ F' k) :=
  ⟨h.os, h.tape, h.output, h.size, fun k hk hn => h.block k hk (fun e => hn (hF k e)), fun k hk => hk.elim .inl fun h1 => (h.new k h1).imp (hF k) id⟩
theorem ty_ne : (5 : TypeId) ≠ 99 ∧ (4 : TypeId) ≠ 99 ∧ (5 : TypeId) ≠ 4 := by decide
/-- A row of one's own lies in no block of another element type. -/
theorem own_ne {B : Nat} {e : TypeId} {s : Nat} {v : Value} {k : Nat} {xs : List Value} (h : w.ownsRow B e s v k xs) {q : Nat} {c : Array Value} {e' : TypeId} {fr : Nat × Nat} (hq : w.heap[q]? = some (.cells c e' fr)) (hne : e ≠ e') : v.ownBlock ≠ some q := by
  intro hv
  rcases h.2 with ⟨rfl, _⟩ | ⟨g, cap, cur, rfl, _, hg, _⟩
  · cases hv
  · cases hv
    rw [hg] at hq
    exact hne (Obj.cells.inj (Option.some.inj hq)).2.1
theorem own_block {B : Nat} {e : TypeId} {s : Nat} {v : Value} {k : Nat} {xs : List Value} (h : w.ownsRow B e s v k xs) {q : Nat} (hv : v.ownBlock = some q) : ∃ c, w.heap[q]? = some (.cells c e (0, 0)) := by
  rcases h.2 with ⟨rfl, _⟩ | ⟨g, cap, cur, rfl, _, hg, _⟩
  · cases hv
  · cases hv
    exact ⟨_, hg⟩
/-- The bytes' row is another one. -/
theorem HeapAt.setB (h : HeapAt w G g t v bv tv) {bs : List UInt8} (hg : w.grownBy w' bv.ownBlock) (ho : w'.ownsRow 0 5 1 bv' bs.length (bs.map B8)) :
    HeapAt (w'.setCell ⟨g, 11, none⟩ bv') (fun k => G k ∨ bv'.ownBlock = some k) g t { v with bs := bs } bv' tv := by
  have hlt : g < w.heap.size := (Array.getElem?_eq_some_iff.1 h.row).1
  have hgw : w'.heap[g]? = some (.cells (heapRow t v.f bv tv (v.th.count true) v.en) 99 (0, 0)) := (hg.block g hlt (fun e => own_ne h.b h.row ty_ne.1 e.symm)).trans h.row
  have hb' : bv'.ownBlock ≠ some g := own_ne ho hgw ty_ne.1
  refine ⟨(heap_setCell_same w' g 11 _ _ bv' hgw).trans rfl, owns_at ho (fun k e => heap_setCell_other _ _ _ _ (fun e2 => hb' (e.trans (congrArg some e2)))), fun k e => .inr e, ?_, fun k e => .inl (h.town k e), .inl h.g⟩
  refine owns_at h.t (fun k e => ?_)
  obtain ⟨c, hk⟩ := own_block h.t e
  rw [heap_setCell_other _ _ _ _ (fun e2 => own_ne h.t h.row ty_ne.2.1 (e.trans (congrArg some e2)))]
  exact hg.block k (Array.getElem?_eq_some_iff.1 hk).1 (fun e2 => own_ne h.b hk ty_ne.2.2 e2.symm)
/-- As does the row of what has come. -/
theorem HeapAt.setT (h : HeapAt w G g t v bv tv) {th : List Bool} (hc : th.count true = v.th.count true) (hg : w.grownBy w' tv.ownBlock) (ho : w'.ownsRow 0 4 1 tv' th.length (th.map Value.bool)) :
    HeapAt (w'.setCell ⟨g, 12, none⟩ tv') (fun k => G k ∨ tv'.ownBlock = some k) g t { v with th := th } bv tv' := by
  have hlt : g < w.heap.size := (Array.getElem?_eq_some_iff.1 h.row).1
  have hgw : w'.heap[g]? = some (.cells (heapRow t v.f bv tv (v.th.count true) v.en) 99 (0, 0)) := (hg.block g hlt (fun e => own_ne h.t h.row ty_ne.2.1 e.symm)).trans h.row
  have hb' : tv'.ownBlock ≠ some g := own_ne ho hgw ty_ne.2.1
  refine ⟨(heap_setCell_same w' g 12 _ _ tv' hgw).trans (by rw [hc]; rfl), ?_, fun k e => .inl (h.bown k e), owns_at ho (fun k e => heap_setCell_other _ _ _ _ (fun e2 => hb' (e.trans (congrArg some e2)))), fun k e => .inr e, .inl h.g⟩
  refine owns_at h.b (fun k e => ?_)
  obtain ⟨c, hk⟩ := own_block h.b e
  rw [heap_setCell_other _ _ _ _ (fun e2 => own_ne h.b h.row ty_ne.1 (e.trans (congrArg some e2)))]
  exact hg.block k (Array.getElem?_eq_some_iff.1 hk).1 (fun e2 => own_ne h.t hk ty_ne.2.2.symm e2.symm)
theorem grow_count (l : List Bool) (e : Nat) : (growL l false e).count true = l.count true := by
  unfold growL
  rw [List.count_append, List.count_replicate]
  simp
theorem grow_map {α : Type} (f : α → Value) (l : List α) (d : α) (e : Nat) : (growL l d e).map f = l.map f ++ List.replicate (e - l.length) (f d) := by simp [growL]
end
theorem bool_info : (Tryd.prog.info? 4).map (fun i => (i.zero, i.size, i.bytes)) = some (some (.bool false), 1, 1) := by kernel_rfl
theorem byte_infoH : (Tryd.prog.info? 5).map (fun i => (i.zero, i.size, i.bytes)) = some (some (.int .u8 0), 1, 1) := by kernel_rfl
/-- What reach does. -/
def ReachAt (g : Nat) (t : Int) (v : Hv) (G : Nat → Prop) (w : World) (e : Ending) (w' : World) : Prop := e = .returned (.tuple #[]) ∧ ∃ G' bv' tv', HeapAt w' G' g t v bv' tv' ∧ Did w w' G G'

theorem own_lt {w : World} {B : Nat} {e : TypeId} {s : Nat} {v : Value} {k : Nat} {xs : List Value} (h : w.ownsRow B e s v k xs) {q : Nat} (hv : v.ownBlock = some q) : q < w.heap.size := (h.lt q hv).2

set_option maxRecDepth 100000 in
set_option maxHeartbeats 2000000 in
theorem reach_any (e : Nat) (he : e ≤ 131072) {w : World} {G : Nat → Prop} {g : Nat} {t : Int} {v : Hv} {bv tv : Value} (hl : v.th.length = v.bs.length) (hs : v.bs.length ≤ 131072) (h : HeapAt w G g t v bv tv) :
    Calls Tryd.prog 59 #[.pointer (some ⟨g, 0, none⟩), .int .i64 (e : Int)] w (ReachAt g t { v with bs := growL v.bs 0 e, th := growL v.th false e } G w) := by
  obtain ⟨m, hm⟩ : ∃ m, e - v.bs.length = m := ⟨_, rfl⟩
  obtain ⟨i, hi, hz0, hz1, hz2⟩ := info_parts byte_infoH
  obtain ⟨i2, hi2, hy0, hy1, hy2⟩ := info_parts bool_info
  -- the bytes
  obtain ⟨bv', w1, run1, own1, gr1, nb1⟩ := run_append_zeros (P := Tryd.prog) w 0 23 3 23 5 i (.int .u8 0) .i64 Tryd.underlying23 Tryd.underlying3 hi hz0 hz1 hz2 rfl rfl bv v.bs.length (v.bs.map B8) h.b m (by omega) (Nat.zero_le _)
  have own1' : w1.ownsRow 0 5 1 bv' (growL v.bs 0 e).length ((growL v.bs 0 e).map B8) := by
    rw [grow_map, hm, growL_len, show max v.bs.length e = v.bs.length + m by omega]
    exact own1
  have H1 := h.setB gr1 own1'
  have D1 : Did w (w1.setCell ⟨g, 11, none⟩ bv') G (fun k => G k ∨ bv'.ownBlock = some k) := ((Did.grown gr1 h.bown).trans (Did.set w1 g 11 bv' h.g)).wide (fun k hk => hk.elim .inl (fun e => by
    rcases nb1 k e with h1 | h1
    · exact .inl (h.bown k h1)
    · exact .inr (by omega)))
  have hgw : w1.heap[g]? = some (.cells (heapRow t v.f bv tv (v.th.count true) v.en) 99 (0, 0)) := (gr1.block g (Array.getElem?_eq_some_iff.1 h.row).1 (fun e => own_ne h.b h.row ty_ne.1 e.symm)).trans h.row
  have e11 : w1.cell? ⟨g, 11, none⟩ = some bv := cell_of_row w1 g 11 _ _ _ hgw
  have f11 : w1.frozen? ⟨g, 11, none⟩ = false := frozen_of_row w1 g 11 _ _ hgw
  -- what has come
  obtain ⟨tv', w3, run3, own3, gr3, nb3⟩ := run_append_zeros (P := Tryd.prog) (w1.setCell ⟨g, 11, none⟩ bv') 0 56 3 56 4 i2 (.bool false) .i64 Tryd.underlying56 Tryd.underlying3 hi2 hy0 hy1 hy2 rfl rfl tv v.th.length (v.th.map Value.bool) H1.t m (by omega) (Nat.zero_le _)
  have own3' : w3.ownsRow 0 4 1 tv' (growL v.th false e).length ((growL v.th false e).map Value.bool) := by
    rw [grow_map, hl, hm, growL_len, show max v.th.length e = v.th.length + m by omega]
    exact own3
  have H3 := Lib.hid (H1.setT (grow_count v.th e) gr3 own3')
  have D3 := Lib.hid (D1.trans (((Did.grown gr3 H1.town).trans (Did.set w3 g 12 tv' H1.g)).wide (F'' := fun k => (G k ∨ bv'.ownBlock = some k) ∨ tv'.ownBlock = some k) (fun k hk => hk.elim .inl (fun e => by
    rcases nb3 k e with h1 | h1
    · exact .inl (H1.town k h1)
    · exact .inr (by omega)))))
  have c12 : (w1.setCell ⟨g, 11, none⟩ bv').cell? ⟨g, 12, none⟩ = some tv := H1.cell 12
  have hgw3 := (gr3.block g (Array.getElem?_eq_some_iff.1 H1.row).1 (fun e => own_ne H1.t H1.row ty_ne.2.1 e.symm)).trans H1.row
  have e12 : w3.cell? ⟨g, 12, none⟩ = some tv := cell_of_row w3 g 12 _ _ _ hgw3
  have f12 : w3.frozen? ⟨g, 12, none⟩ = false := frozen_of_row w3 g 12 _ _ hgw3
  have c11 : w.cell? ⟨g, 11, none⟩ = some bv := h.cell 11
  obtain ⟨A, c, rfl, hc1, hc2, _⟩ := own_shape h.b
  obtain ⟨A1, c1, hb1, _⟩ := own_shape own1'
  obtain ⟨A3, c3, ht3, _⟩ := own_shape own3'
  obtain ⟨A2, c2, ht2, _⟩ := own_shape h.t
  have HB1 := Lib.hid hb1
  have HT3 := Lib.hid ht3
  have HT2 := Lib.hid ht2
  have R1 := Lib.hid run1
  have R3 := Lib.hid run3
  have hmax := fun ats ty W => max_run (P := Tryd.prog) ats ty ((e : Int) - (v.bs.length : Int)) 0 (m : Int) (by omega) W
  have q1 : IntKind.i64.wrap ((e : Int) - (v.bs.length : Int)) = (e : Int) - (v.bs.length : Int) := by rw [IntKind.wrap_i64]; omega
  have C12 := Lib.hid (And.intro c12 (And.intro e12 f12))
  have E11 := Lib.hid (And.intro e11 f11)
  clear h H1 D1 hb1 ht3 ht2 own1 own1' own3 own3' gr1 gr3 nb1 nb3 hgw hgw3 c12 e12 f12 e11 f11 run1 run3 hi hz0 hz1 hz2 hi2 hy0 hy1 hy2
  obtain ⟨N, hN⟩ : ∃ N, v.bs.length = N := ⟨_, rfl⟩
  have HN := Lib.hid hN
  rw [hN] at c11 R1 hmax q1 hc1
  clear hN hl hs hm
  go_enter Tryd.func59, Tryd.ntmps59
  go_upto_region 1 with fail
  clear hmax q1
  obtain ⟨e11, f11⟩ := E11.out
  rw [HN.out] at e11
  obtain ⟨N1, hN1⟩ : ∃ N1, (growL v.bs 0 e).length = N1 := ⟨_, rfl⟩
  obtain ⟨V1, hV1⟩ : ∃ V1, bv' = V1 := ⟨_, rfl⟩
  have HV1 := Lib.hid hV1
  rw [hV1] at R1
  obtain rfl : V1 = .slice A1 N1 c1 := by rw [← hV1, HB1.out, hN1]
  clear hV1 hN1
  go_upto_region 2 with (at_builtin; refine wpList_append_run rfl (.tmp 17) (.tmp 18) 23 3 rfl _ _ rfl rfl _ _ R1.out ?_)
  rw [← HV1.out]
  generalize w1.setCell ⟨g, 11, none⟩ bv' = W2 at *
  clear c11 e11 f11 E11 R1
  obtain ⟨c12, e12, f12⟩ := C12.out
  rw [HT2.out] at c12 e12 R3
  rw [HT3.out] at R3
  generalize (growL v.th false e).length = N3 at HT3 R3
  generalize v.th.length = N2 at c12 e12 R3 HT2
  go_wp2_with (at_builtin; refine wpList_append_run rfl (.tmp 26) (.tmp 27) 56 3 rfl _ _ rfl rfl _ _ R3.out ?_)
  rw [← HT3.out]
  go_end0
  exact ⟨rfl, _, _, _, H3.out, D3.out⟩
end Go.Proofs.YtdmogppkambgaaaDoor
namespace Go.Proofs.YtdmogppkambgaaaDoor
open Go.RowKit

theorem layL_nil {α : Type} (l : List α) (o : Nat) : layL l o [] = l := by simp [layL]
theorem layL_take {α : Type} {l x : List α} {o n : Nat} (h : o + x.length ≤ n) (hn : n ≤ l.length) : (layL l o x).take n = layL (l.take n) o x := by
  have hl : (l.take n).length = n := by rw [List.length_take]; omega
  apply List.ext_getElem?
  intro k
  by_cases hk : k < n
  · rw [List.getElem?_take_of_lt hk]
    by_cases h2 : o ≤ k ∧ k < o + x.length
    · rw [layL_in (by omega) h2.1 h2.2, layL_in (by omega) h2.1 h2.2]
    · rw [layL_out (by omega) (by omega), layL_out (by omega) (by omega), List.getElem?_take_of_lt hk]
  · rw [List.getElem?_eq_none (by rw [List.length_take]; omega), List.getElem?_eq_none (by rw [layL_len (by omega)]; omega)]
theorem layL_map {α β : Type} (f : α → β) (l x : List α) (o : Nat) : (layL l o x).map f = layL (l.map f) o (x.map f) := by simp [layL]
theorem wpList_copy_run {P : Program} {w : World} {ops : Array Oper} {rest : List Oper} {o : Oper} {a : Act} {Q : Exit → Act → World → Prop} (hgd : o.guard = none) (s x : Operand) (t u : TypeId)
    (ho : o.op = .call { callee := .builtin .copy, args := #[s, x], argTypes := #[t, u] }) (v1 v2 : Value) (hs : a.eval s = v1) (hx : a.eval x = v2) (v' : Value) (w' : World)
    (hrun : (Builtin.copy_ #[t, u] o.type #[v1, v2]).run P w = .ok v' w') (h : wpList P ops Q rest (a.put o.dst v') w') : wpList P ops Q (o :: rest) a w := by
  refine wpList_plain hgd fun K hK => ?_
  unfold Oper.wp execOp
  simp only [ho, resolve, invoke, builtin, Sem.run_bind, Sem.run_pure, Result.andThen_ok, List.map_toArray, List.map_cons, List.map_nil, hs, hx, hrun]
  exact hK _ _ h
theorem slice_from {P : Program} (t e : TypeId) (ht : P.underlying t = some (.slice e)) (hz : (P.info? e).map (·.size) = some 1) (A : Option Addr) (N c o : Nat) (ho : o ≤ N) :
    ∃ DA : Option Addr, (∀ W : World, (Instr.slice t (.slice A N c) (some (.int .i64 (o : Int))) none none).run P W = .ok (.slice DA (N - o) (c - o)) W) ∧ ∀ g, A = some ⟨g, 0, none⟩ → o < c → DA = some ⟨g, o, none⟩ := by
  refine ⟨if c = o then A else A.map (·.add (o * 1)), fun W => ?_, ?_⟩
  · cases hq : P.info? e with
    | none => simp [hq] at hz
    | some i =>
      have hi : i.size = 1 := by simpa [hq] using hz
      obtain ⟨k, hk⟩ : ∃ k : Int, (o : Int) = k := ⟨_, rfl⟩
      have h1 : 0 ≤ k ∧ k ≤ (N : Int) := by omega
      have h2 : k.toNat = o := by omega
      rw [hk]
      simp [Instr.slice, Instr.sliceBounds, Instr.sliceBound, asIntOf, run_underlying ht, sizeOf, typeInfo, hq, hi, h1, h2]
  · rintro g rfl h
    rw [if_neg (by omega)]
    simp [Addr.add_lit]
theorem byte_size : (Tryd.prog.info? 5).map (·.size) = some 1 := by kernel_rfl
section
variable {w w' : World} {G : Nat → Prop} {g : Nat} {t : Int} {v : Hv} {bv tv : Value}
/-- The part's bytes are laid. -/
theorem HeapAt.copy (h : HeapAt w G g t v bv tv) {o : Nat} {x : List UInt8} (ho : o + x.length ≤ v.bs.length) {A : Option Addr} {c : Nat} (hr : Rd w (.slice A x.length c) x) (ty : TypeId) {D : Option Addr} {dn dc : Nat}
    (hD : x ≠ [] → ∃ gb, bv.ownBlock = some gb ∧ D = some ⟨gb, o, none⟩) (hdn : x.length ≤ dn) :
    ∃ w', (Builtin.copy_ #[23, 23] ty #[.slice D dn dc, .slice A x.length c]).run Tryd.prog w = .ok (goInt x.length) w' ∧ HeapAt w' G g t { v with bs := layL v.bs o x } bv tv ∧ Did w w' G G := by
  by_cases hx : x = []
  · subst hx
    exact ⟨w, run_copy_none w _ _ ty _ D A dn dc 0 c Tryd.underlying23 byte_size (by simp), by rw [layL_nil]; exact h, Did.refl w G⟩
  · obtain ⟨gb, hgb, rfl⟩ := hD hx
    obtain ⟨A', c', e, _, hi⟩ := hr
    cases e
    obtain ⟨ga, oa, rfl, hj⟩ := hi (List.length_pos_iff.2 hx)
    rcases h.b.2 with ⟨rfl, _⟩ | ⟨gb', cap, cur, hbv, _, hg, h1, h2, h3, h4⟩
    · cases hgb
    · obtain rfl : gb = gb' := by
        rw [hbv] at hgb
        simpa [Value.ownBlock] using hgb.symm
      have hcs : cur.toList.length = cap := by rw [Array.length_toList]; omega
      have hrow := run_copy_row (P := Tryd.prog) w 23 23 ty 5 gb o dn dc ⟨ga, oa, none⟩ x.length c cur 5 (x.map B8) Tryd.underlying23 byte_size hg (by rw [List.length_map]; exact (Nat.min_eq_left hdn).symm)
        (fun j u hu => by
          rw [List.getElem?_map, Option.map_eq_some_iff] at hu
          obtain ⟨b, hb, rfl⟩ := hu
          rw [Addr.add_lit]
          exact hj j b hb) (by rw [List.length_map]; omega) (fun u hu => by obtain ⟨b, _, rfl⟩ := List.mem_map.1 hu; rfl)
      rw [List.length_map, List.append_assoc] at hrow
      have hrow2 : (w.setRow gb (cur.toList.take o ++ (x.map B8 ++ cur.toList.drop (o + x.length))).toArray).heap[gb]? = some (.cells (layL cur.toList o (x.map B8)).toArray 5 (0, 0)) := by
        rw [setRow_heap w gb cur _ _ _ hg]
        unfold layL
        rw [List.length_map]
      have hne : gb ≠ g := fun e => by rw [e, h.row] at hg; exact ty_ne.1 (Obj.cells.inj (Option.some.inj hg)).2.1.symm
      have hnt : ∀ k, tv.ownBlock = some k → gb ≠ k := fun k hk e => by
        obtain ⟨cc, hcc⟩ := own_block h.t hk
        rw [← e, hg] at hcc
        exact ty_ne.2.2 (Obj.cells.inj (Option.some.inj hcc)).2.1
      refine ⟨_, hrow, ⟨(Go.setRow_other w gb g _ (Ne.symm hne)).trans h.row, ?_, h.bown, owns_at h.t (fun k hk => Go.setRow_other w gb k _ (Ne.symm (hnt k hk))), h.town, h.g⟩, ?_⟩
      · refine ⟨by rw [List.length_map, layL_len ho]; omega, .inr ⟨gb, cap, _, by rw [hbv, layL_len ho], Nat.zero_le _, hrow2, by rw [layL_len ho]; exact h1, h2, ?_, ?_⟩⟩
        · rw [List.size_toArray, layL_len (by rw [List.length_map]; omega), hcs]
          omega
        · show (layL cur.toList o (x.map B8)).take ((layL v.bs o x).length * 1) = _
          rw [Nat.mul_one] at h4
          rw [layL_len ho, Nat.mul_one, layL_take (by rw [List.length_map]; omega) (by omega), h4, layL_map]
      · exact ⟨rfl, rfl, rfl, by simp, fun k _ hk => Go.setRow_other w gb k _ (fun e => hk (e ▸ h.bown gb (by rw [hbv]; rfl))), fun _ hk => .inl hk⟩
/-- One byte more has come. -/
theorem HeapAt.mark (h : HeapAt w G g t v bv tv) {gt k : Nat} (ht : tv.ownBlock = some gt) (hk : v.th[k]? = some false) {n : Int} (hn : n = ((v.th.count true + 1 : Nat) : Int)) :
    HeapAt ((w.setCell ⟨gt, k, none⟩ (.bool true)).setCell ⟨g, 13, none⟩ (.int .i64 n)) G g t { v with th := v.th.set k true } bv tv ∧ Did w ((w.setCell ⟨gt, k, none⟩ (.bool true)).setCell ⟨g, 13, none⟩ (.int .i64 n)) G G := by
  have hkl := (List.getElem?_eq_some_iff.1 hk).1
  have hc : (v.th.set k true).count true = v.th.count true + 1 := by rw [count_set hkl, hk]; simp
  rcases h.t.2 with ⟨rfl, _⟩ | ⟨gt', cap, cur, htv, _, hg, h1, h2, h3, h4⟩
  · cases ht
  · obtain rfl : gt = gt' := by
      rw [htv] at ht
      simpa [Value.ownBlock] using ht.symm
    have hne : gt ≠ g := fun e => by rw [e, h.row] at hg; exact ty_ne.2.1 (Obj.cells.inj (Option.some.inj hg)).2.1.symm
    have hrow : (w.setCell ⟨gt, k, none⟩ (.bool true)).heap[g]? = some (.cells (heapRow t v.f bv tv (v.th.count true) v.en) 99 (0, 0)) := (heap_setCell_other _ _ _ _ (Ne.symm hne)).trans h.row
    have hoth : ∀ q, q ≠ g → q ≠ gt → ((w.setCell ⟨gt, k, none⟩ (.bool true)).setCell ⟨g, 13, none⟩ (.int .i64 n)).heap[q]? = w.heap[q]? := fun q q1 q2 => (heap_setCell_other _ _ _ _ q1).trans (heap_setCell_other _ _ _ _ q2)
    refine ⟨⟨(heap_setCell_same _ g 13 _ _ _ hrow).trans (by simp only [hc, hn]; rfl), owns_at h.b (fun q hq => ?_), h.bown, ?_, h.town, h.g⟩, ?_⟩
    · obtain ⟨cc, hcc⟩ := own_block h.b hq
      refine hoth q (fun e => own_ne h.b h.row ty_ne.1 (hq.trans (congrArg some e))) (fun e => ?_)
      rw [e, hg] at hcc
      exact ty_ne.2.2 (Obj.cells.inj (Option.some.inj hcc)).2.1.symm
    · refine ⟨by rw [List.length_map, List.length_set]; omega, .inr ⟨gt, cap, _, by rw [htv, List.length_set], Nat.zero_le _, (heap_setCell_other _ _ _ _ hne).trans (heap_setCell_same w gt k _ _ _ hg), by rw [List.length_set]; exact h1, h2, by rw [Array.size_setIfInBounds]; exact h3, ?_⟩⟩
      rw [Nat.mul_one] at h4 ⊢
      rw [List.length_set, Array.toList_setIfInBounds, List.take_set, h4, List.map_set]
    · exact ⟨rfl, rfl, rfl, by simp, fun q _ hq => hoth q (fun e => hq (e ▸ h.g)) (fun e => hq (e ▸ h.town gt (by rw [htv]; rfl))), fun _ hq => .inl hq⟩
/-- Whether the end has come. -/
theorem HeapAt.close (h : HeapAt w G g t v bv tv) (b : Bool) : HeapAt (w.setCell ⟨g, 14, none⟩ (.bool b)) G g t { v with en := b } bv tv ∧ Did w (w.setCell ⟨g, 14, none⟩ (.bool b)) G G :=
  ⟨⟨(heap_setCell_same _ g 14 _ _ _ h.row).trans rfl, owns_at h.b (fun _ hq => heap_setCell_other _ _ _ _ (fun e => own_ne h.b h.row ty_ne.1 (hq.trans (congrArg some e)))), h.bown, owns_at h.t (fun _ hq => heap_setCell_other _ _ _ _ (fun e => own_ne h.t h.row ty_ne.2.1 (hq.trans (congrArg some e)))), h.town, h.g⟩, Did.set w g 14 _ h.g⟩
theorem heap_setCells_other {g q : Nat} (hq : q ≠ g) : ∀ (vs : List Value) (o : Nat) (w : World), (w.setCells g o vs).heap[q]? = w.heap[q]?
  | [], _, _ => rfl
  | v :: vs, o, w => (heap_setCells_other hq vs (o + 1) (w.setCell ⟨g, o, none⟩ v)).trans (heap_setCell_other w ⟨g, o, none⟩ q v hq)
theorem heap_setCells_size {g : Nat} : ∀ (vs : List Value) (o : Nat) (w : World), (w.setCells g o vs).heap.size = w.heap.size
  | [], _, _ => rfl
  | v :: vs, o, w => (heap_setCells_size vs (o + 1) (w.setCell ⟨g, o, none⟩ v)).trans (World.size_setCell ..)
theorem heap_setCells_rest {g : Nat} : ∀ (vs : List Value) (o : Nat) (w : World), (w.setCells g o vs).os = w.os ∧ (w.setCells g o vs).tape = w.tape ∧ (w.setCells g o vs).output = w.output
  | [], _, _ => ⟨rfl, rfl, rfl⟩
  | v :: vs, o, w => heap_setCells_rest vs (o + 1) (w.setCell ⟨g, o, none⟩ v)
def setA (cs : Array Value) : Nat → List Value → Array Value
  | _, [] => cs
  | o, v :: vs => setA (cs.setIfInBounds o v) (o + 1) vs
theorem heap_setCells_same {g : Nat} {ty : TypeId} : ∀ (vs : List Value) (o : Nat) (w : World) (cs : Array Value), w.heap[g]? = some (.cells cs ty (0, 0)) → (w.setCells g o vs).heap[g]? = some (.cells (setA cs o vs) ty (0, 0))
  | [], _, _, _, h => h
  | v :: vs, o, w, cs, h => heap_setCells_same vs (o + 1) (w.setCell ⟨g, o, none⟩ v) _ (heap_setCell_same w g o cs ty v h)
theorem first_row (t : Int) (f p : Ip) (bv tv bv0 : Value) (n : Nat) (en : Bool) : (setA (heapRow t f bv tv n en) 1 (p.row bv0).toList).setIfInBounds 10 (.slice none 0 0) = heapRow t { p with b := [] } bv tv n en := by kernel_rfl
theorem first_mid (t : Int) (f p : Ip) (bv tv bv0 : Value) (n : Nat) (en : Bool) : (setA (heapRow t f bv tv n en) 1 (p.row bv0).toList)[10]? = some bv0 := by kernel_rfl
theorem HeapAt.firstMid (h : HeapAt w G g t v bv tv) (p : Ip) (bv0 : Value) : (w.setCells g 1 (p.row bv0).toList).cell? ⟨g, 10, none⟩ = some bv0 ∧ (w.setCells g 1 (p.row bv0).toList).frozen? ⟨g, 10, none⟩ = false := by
  have hrow := heap_setCells_same (p.row bv0).toList 1 w _ h.row
  exact ⟨(cell_of_row _ g 10 _ _ _ hrow).trans (first_mid ..), frozen_of_row _ g 10 _ _ hrow⟩
/-- The head of the part that begins it. -/
theorem HeapAt.first (h : HeapAt w G g t v bv tv) (p : Ip) (bv0 : Value) :
    HeapAt ((w.setCells g 1 (p.row bv0).toList).setCell ⟨g, 10, none⟩ (.slice none 0 0)) G g t { v with f := { p with b := [] } } bv tv ∧ Did w ((w.setCells g 1 (p.row bv0).toList).setCell ⟨g, 10, none⟩ (.slice none 0 0)) G G := by
  obtain ⟨vs, hvs⟩ : ∃ vs, (p.row bv0).toList = vs := ⟨_, rfl⟩
  have hrow := heap_setCell_same _ g 10 _ _ (.slice none 0 0) (heap_setCells_same (p.row bv0).toList 1 w _ h.row)
  rw [first_row] at hrow
  rw [hvs] at hrow ⊢
  obtain ⟨k1, k2, k3⟩ := heap_setCells_rest (g := g) vs 1 w
  have hoth : ∀ q, q ≠ g → ((w.setCells g 1 vs).setCell ⟨g, 10, none⟩ (.slice none 0 0)).heap[q]? = w.heap[q]? := fun q hq => (heap_setCell_other _ ⟨g, 10, none⟩ q _ hq).trans (heap_setCells_other hq _ _ _)
  have hs : w.heap.size ≤ ((w.setCells g 1 vs).setCell ⟨g, 10, none⟩ (.slice none 0 0)).heap.size := by rw [World.size_setCell, heap_setCells_size]; exact Nat.le_refl _
  have k1 : ((w.setCells g 1 vs).setCell ⟨g, 10, none⟩ (.slice none 0 0)).os = w.os := k1
  have k2 : ((w.setCells g 1 vs).setCell ⟨g, 10, none⟩ (.slice none 0 0)).tape = w.tape := k2
  have k3 : ((w.setCells g 1 vs).setCell ⟨g, 10, none⟩ (.slice none 0 0)).output = w.output := k3
  generalize (w.setCells g 1 vs).setCell ⟨g, 10, none⟩ (.slice none 0 0) = W at *
  have a1 : W.ownsRow 0 5 1 bv v.bs.length (v.bs.map B8) := owns_at h.b (fun q hq => hoth q (fun e => own_ne h.b h.row ty_ne.1 (hq.trans (congrArg some e))))
  have a2 : W.ownsRow 0 4 1 tv v.th.length (v.th.map Value.bool) := owns_at h.t (fun q hq => hoth q (fun e => own_ne h.t h.row ty_ne.2.1 (hq.trans (congrArg some e))))
  exact ⟨⟨hrow, a1, h.bown, a2, h.town, h.g⟩, ⟨k1, k2, k3, hs, fun q _ hq => hoth q (fun e => hq (e ▸ h.g)), fun _ hq => .inl hq⟩⟩
end
end Go.Proofs.YtdmogppkambgaaaDoor
namespace Go.Proofs.YtdmogppkambgaaaDoor
open Go.RowKit

theorem has_any0 {w : World} {G : Nat → Prop} {g : Nat} {t : Int} {v : Hv} {bv tv : Value} (h : HeapAt w G g t v bv tv) :
    Calls Tryd.prog 58 #[.pointer (some ⟨g, 0, none⟩), .int .i64 0] w fun e w' => e = .returned (.bool (decide (v.th[0]? = some true))) ∧ w' = w := has_any 0 (by omega) h
theorem there_heap {w : World} {G : Nat → Prop} {g : Nat} {t : Int} {v : Hv} {bv tv : Value} (h : HeapAt w G g t v bv tv) (p : Ip) (bv0 : Value) : w.there g 1 (p.row bv0).size := by
  intro j hj
  have hj : j < 10 := hj
  refine ⟨?_, frozen_of_row w g (1 + j) _ _ h.row⟩
  rw [h.cell]
  have : 1 + j < (heapRow t v.f bv tv (v.th.count true) v.en).size := by show 1 + j < 15; omega
  rw [Array.getElem?_eq_getElem this]
  rfl
theorem rd_did {w W0 D : World} {G G2 : Nat → Prop} {A : Option Addr} {n c : Nat} {bs : List UInt8} (h : Rd w (.slice A n c) bs) (hB : Below w.heap.size w W0) (hD : Did W0 D G G2) (hA : bs ≠ [] → ∀ a, A = some a → ¬ G a.block) : Rd D (.slice A n c) bs := by
  obtain ⟨A', c', e, hcc, hi⟩ := h
  refine ⟨A', c', e, hcc, fun h0 => ?_⟩
  obtain ⟨g, o, rfl, hj⟩ := hi h0
  cases e
  refine ⟨g, o, rfl, fun i u hu => ?_⟩
  have h1 := hj i u hu
  have h2 : g < w.heap.size := World.block_lt_of_cell? w _ h1
  rw [← h1]
  unfold World.cell?
  rw [hD.block g (Nat.lt_of_lt_of_le h2 hB.size) (hA (List.length_pos_iff.1 h0) _ rfl), hB.block g h2]
theorem set_sameH {t : List Bool} {k : Nat} (h : t[k]? = some true) : t.set k true = t := by
  apply List.ext_getElem?
  intro i
  rw [List.getElem?_set]
  by_cases e : k = i
  · subst e
    rw [if_pos rfl, if_pos (List.getElem?_eq_some_iff.1 h).1, h]
  · rw [if_neg e]
/-- What add does. -/
def HaddAt (g : Nat) (t : Int) (v : Hv) (G : Nat → Prop) (w : World) (e : Ending) (w' : World) : Prop := e = .returned (.tuple #[]) ∧ ∃ G' bv' tv', HeapAt w' G' g t v bv' tv' ∧ Did w w' G G'

set_option maxRecDepth 100000 in
set_option maxHeartbeats 4000000 in
theorem hadd_any (p : Ip) (hp : p.In) (hbad : p.bad = 0) {A : Option Addr} {c : Nat} (_ : c ≤ 9223372036854775807) {w : World} (hr : Rd w (.slice A p.b.length c) p.b) {G : Nat → Prop} {g : Nat} {t : Int} {v : Hv} {bv tv : Value}
    (hA : p.b ≠ [] → ∀ a, A = some a → ¬ G a.block) (hl : v.th.length = v.bs.length) (hs : v.bs.length ≤ 65515) (hlt : ∀ k, G k → k < w.heap.size) (h : HeapAt w G g t v bv tv) :
    Calls Tryd.prog 45 #[.pointer (some ⟨g, 0, none⟩), p.val (.slice A p.b.length c)] w (HaddAt g t (v.add p) G w) := by
  have hR := (Ip.right_iff p).1 hbad
  obtain ⟨o, ho⟩ : ∃ o : Nat, p.off = o := ⟨p.off.toNat, by have := hR.off0; omega⟩
  have hfar := hR.far
  have HB := Lib.hid (below_al (Below.refl _ w) (p.obj (.slice A p.b.length c)))
  have HP := Lib.hid (IpAt.new w p (.slice A p.b.length c))
  have H0 := Lib.hid (h.at (w' := w.alloc (p.obj (.slice A p.b.length c))) (fun k hk => Below.block (below_al (Below.refl _ w) _) k (hlt k hk)))
  obtain ⟨d, hd⟩ : ∃ d : Bool, decide (p.off = 0 ∧ v.th[0]? ≠ some true) = d := ⟨_, rfl⟩
  obtain ⟨f1, hf1⟩ : ∃ f1 : Ip, (if p.off = 0 ∧ v.th[0]? ≠ some true then { p with b := [] } else v.f) = f1 := ⟨_, rfl⟩
  have Hd := Lib.hid hd
  have Hf1 := Lib.hid hf1
  have Hfar := Lib.hid hfar
  have Ho := Lib.hid ho
  have HA := Lib.hid hA
  have Hlt := Lib.hid hlt
  have Hl := Lib.hid hl
  have Hs := Lib.hid hs
  have Hr := Lib.hid hr
  have Hp := Lib.hid hp
  rw [Ip.val_lit]
  unfold Ip.obj at HB HP H0
  clear hd hf1 hfar hA hlt hl hs hr h hp hR hbad ho
  go_enter Tryd.func45, Tryd.ntmps45
  go_upto_region 1 with fail
  obtain ⟨W0, hW0⟩ : ∃ W0, w.alloc (.cells #[.int .u8 p.tos, .int .u16 p.id, .bool p.df, .bool p.mf, .int .i64 p.off, .int .u8 p.ttl, .int .u8 p.proto, .int .u32 p.src, .int .u32 p.dst, .slice A p.b.length c] 42) = W0 := ⟨_, rfl⟩
  rw [hW0] at HB HP H0 ⊢
  obtain ⟨B0, hB0⟩ : ∃ B0, w.heap.size = B0 := ⟨_, rfl⟩
  have HB0 := Lib.hid hB0
  rw [hB0] at HP ⊢
  clear hW0 hB0
  obtain ⟨c0, c1, c2, c3, c4, c5, c6, c7, c8, c9⟩ := HP.out.cells
  go_cut [13] (fun s13 wx => s13 = .bool d ∧ wx = W0)
  case first =>
    clear c0 c1 c2 c3 c5 c6 c7 c8 c9
    have X := Lib.hid (has_any0 H0.out)
    by_cases h0 : p.off = 0
    · have q0 : (p.off == 0) = true := by rw [beq_iff_eq]; exact h0
      obtain ⟨x, hx⟩ : ∃ x, decide (v.th[0]? = some true) = x := ⟨_, rfl⟩
      have hdx : (!x) = d := by
        rw [← Hd.out, ← hx]
        by_cases ht : v.th[0]? = some true <;> simp [h0, ht]
      rw [hx] at X
      clear hx h0
      subst hdx
      go_wp2_with (go_at_call 58; (with_reducible refine X.out.mono ?_); rintro e w1 ⟨rfl, hw1⟩; subst w1)
      go_meet
      exact ⟨rfl, rfl⟩
    · have q0 : (p.off == 0) = false := by rw [beq_eq_false_iff_ne]; exact h0
      have hdx : false = d := by rw [← Hd.out]; simp [h0]
      subst hdx
      clear h0
      go_wp2_with fail
      go_meet
      exact ⟨rfl, rfl⟩
  obtain ⟨rfl, hwc⟩ := hcut
  subst hwc
  generalize wc = W0 at *
  go_upto_if 13 with fail
  go_cut [14] (fun _ wx => HeapAt wx G g t { v with f := f1 } bv tv ∧ Did W0 wx G G)
  case first =>
    cases d with
    | false =>
      obtain rfl : f1 = v.f := by
        rw [← Hf1.out, if_neg (by have := Hd.out; simpa using this)]
      go_wp2_with fail
      go_meet
      exact ⟨H0.out, Did.refl _ _⟩
    | true =>
      obtain rfl : f1 = { p with b := [] } := by
        rw [← Hf1.out, if_pos (by have := Hd.out; simpa using this)]
      have HF := Lib.hid (H0.out.first p (.slice A p.b.length c))
      have HTh := Lib.hid (there_heap H0.out p (.slice A p.b.length c))
      have HM := Lib.hid (H0.out.firstMid p (.slice A p.b.length c))
      unfold Ip.row at HF HTh HM
      go_upto_region 3 with (refine wpList_store_mid rfl 42 (.tmp 17) (.tmp 15) rfl g 1 #[.int .u8 p.tos, .int .u16 p.id, .bool p.df, .bool p.mf, .int .i64 p.off, .int .u8 p.ttl, .int .u8 p.proto, .int .u32 p.src, .int .u32 p.dst, .slice A p.b.length c] rfl rfl HTh.out ipSize (by simp [Value.oneCell']) ?_)
      obtain ⟨e10, f10⟩ := HM.out
      generalize W0.setCells g 1 #[.int .u8 p.tos, .int .u16 p.id, .bool p.df, .bool p.mf, .int .i64 p.off, .int .u8 p.ttl, .int .u8 p.proto, .int .u32 p.src, .int .u32 p.dst, .slice A p.b.length c].toList = wS at HF e10 f10 ⊢
      clear HM HTh
      go_wp2_with fail
      go_meet
      exact HF.out
  obtain ⟨hF1, hD1⟩ := hcut
  obtain ⟨V1, hV1⟩ : ∃ V1 : Hv, ({ v with f := f1 } : Hv) = V1 := ⟨_, rfl⟩
  rw [hV1] at hF1
  have HV1 := Lib.hid hV1
  have e1 : V1.bs = v.bs := by rw [← hV1]
  have e2 : V1.th = v.th := by rw [← hV1]
  have E12 := Lib.hid (And.intro e1 e2)
  have HF1 := Lib.hid hF1
  have HD1 := Lib.hid hD1
  clear hF1 hD1 hV1 e1 e2 c0 c1 c2 c3 c4 c5 c6 c7 c8 c9 H0
  generalize wc = W1 at *
  have HP1 : Hid (IpAt W1 B0 p (.slice A p.b.length c)) := Lib.hid ((HD1.out.block B0 HP.out.lt (fun hG => by have := Hlt.out B0 hG; have := HB0.out; omega)).trans HP.out)
  obtain ⟨c0, c1, c2, c3, c4, c5, c6, c7, c8, c9⟩ := HP1.out.cells
  obtain ⟨L, hL⟩ : ∃ L, p.b.length = L := ⟨_, rfl⟩
  have HL := Lib.hid hL
  have X := Lib.hid (reach_any (o + L) (by have := Hfar.out; have := Ho.out; omega) (by rw [E12.out.1, E12.out.2]; exact Hl.out) (by rw [E12.out.1]; have := Hs.out; omega) HF1.out)
  have q1 : IntKind.i64.wrap (p.off + (L : Int)) = ((o + L : Nat) : Int) := by have := Hfar.out; have := Ho.out; rw [IntKind.wrap_i64]; omega
  obtain ⟨E, hE⟩ : ∃ E : Int, ((o + L : Nat) : Int) = E := ⟨_, rfl⟩
  rw [hE] at X q1
  rw [hL] at c9 ⊢
  clear hL c0 c1 c2 c3 c5 c6 c7 c8 hE
  go_upto_region 5 with (go_at_call 59; (with_reducible refine X.out.mono ?_); rintro e w2 ⟨rfl, G2, bv2, tv2, hF2, hD2⟩; (have HF2 := Lib.hid hF2); (have HD2 := Lib.hid hD2); clear hF2 hD2)
  clear X q1 c4 c9
  obtain ⟨V2, hV2⟩ : ∃ V2 : Hv, ({ V1 with bs := growL V1.bs 0 (o + L), th := growL V1.th false (o + L) } : Hv) = V2 := ⟨_, rfl⟩
  rw [hV2] at HF2
  have e1 : V2.bs = growL v.bs 0 (o + L) := by rw [← hV2, ← E12.out.1]
  have e2 : V2.th = growL v.th false (o + L) := by rw [← hV2, ← E12.out.2]
  have e3 : V2.f = f1 := by rw [← hV2, ← HV1.out]
  have e4 : V2.en = v.en := by rw [← hV2, ← HV1.out]
  have EV := Lib.hid (And.intro e1 (And.intro e2 (And.intro e3 e4)))
  have lb := growL_len v.bs 0 (o + L)
  have lt := growL_len v.th false (o + L)
  rw [← e1] at lb
  rw [← e2] at lt
  have Hlb := Lib.hid lb
  have Hlt2 := Lib.hid lt
  have HD12 := Lib.hid (HD1.out.trans HD2.out)
  clear hV2 e1 e2 e3 e4 lb lt HF1 HD1 HD2 HV1 E12
  have HP2 : Hid (IpAt w2 B0 p (.slice A p.b.length c)) := Lib.hid ((HD12.out.block B0 HP.out.lt (fun hG => by have := Hlt.out B0 hG; have := HB0.out; omega)).trans HP.out)
  obtain ⟨A2, c2, hb2, hl2, hm2, hi2⟩ := own_shape HF2.out.b
  refine wp_region_still_tail 9 (by kernel_rfl) (by kernel_rfl) ?_
  generalize hD : ({ w2 with drawn := w2.drawn + 1 } : World) = D
  have HD : D = w2.drewN 1 := hD.symm
  have HF3 : Hid (HeapAt D G2 g t V2 bv2 tv2) := Lib.hid (by rw [HD]; exact HF2.out.at (fun _ _ => rfl))
  have HP3 : Hid (IpAt D B0 p (.slice A p.b.length c)) := Lib.hid (by rw [HD]; exact HP2.out)
  have HD3 : Hid (Did W0 D G G2) := Lib.hid (by rw [HD]; exact HD12.out.trans (Did.of_below (drew_belowH _ 1)))
  clear HD hD HF2 HP2 HD12
  have c11 : D.cell? ⟨g, 11, none⟩ = some bv2 := HF3.out.cell 11
  obtain ⟨c0, c1, c2', c3, c4, c5, c6, c7, c8, c9⟩ := HP3.out.cells
  rw [Ho.out] at c4
  rw [HL.out] at c9
  clear c0 c1 c2' c3 c5 c6 c7 c8
  obtain ⟨N2, hN2⟩ : ∃ N2, V2.bs.length = N2 := ⟨_, rfl⟩
  have HN2 := Lib.hid hN2
  rw [hN2] at hb2 hl2
  have hoN : o + L ≤ N2 := by have := Hlb.out; omega
  rw [hb2] at c11
  have Hb2 := Lib.hid hb2
  have Hi2 := Lib.hid hi2
  obtain ⟨DA, hsl, hda⟩ := slice_from (P := Tryd.prog) 23 5 Tryd.underlying23 byte_size A2 N2 c2 o (by omega)
  have hsl := hsl D
  have Hda := Lib.hid hda
  clear hb2 hi2 hN2 hda
  simp only [List.take_succ_cons, List.take_zero, List.drop_succ_cons, List.drop_zero]
  repeat still_step
  refine wpStill_nil ?_
  have hrD : Rd D (.slice A p.b.length c) p.b := rd_did Hr.out HB.out HD3.out HA.out
  obtain ⟨w4, run4, HF4, HD4⟩ := HF3.out.copy (o := o) (x := p.b) (by rw [HL.out, HN2.out]; exact hoN) (A := A) (c := c) hrD 3 (D := DA) (dn := N2 - o) (dc := c2 - o) (fun hne => by
    have h1 : 0 < p.b.length := List.length_pos_iff.2 hne
    rw [HL.out] at h1
    have h2 : o < V2.bs.length := by rw [HN2.out]; omega
    obtain ⟨g', e1, e2, _⟩ := Hi2.out o (B8 (V2.bs[o]'h2)) (by rw [List.getElem?_map, List.getElem?_eq_getElem h2]; rfl)
    exact ⟨g', e2, Hda.out g' e1 (by rw [HN2.out] at h2; omega)⟩) (by rw [HL.out]; omega)
  rw [HL.out] at run4
  have HF4 := Lib.hid HF4
  have HD4 := Lib.hid (HD3.out.trans HD4)
  have hG2 : ¬ G2 B0 := fun h => by
    rcases HD3.out.new B0 h with h1 | h1
    · have := Hlt.out B0 h1; have := HB0.out; omega
    · have := HP.out.lt; omega
  have HG2 := Lib.hid hG2
  clear hrD hG2
  go_upto_region 6 with (at_builtin; refine wpList_copy_run rfl (.tmp 36) (.tmp 38) 23 23 rfl _ _ rfl rfl _ _ run4 ?_)
  clear run4 hsl c4 c9 c11 Hda Hi2 hl2 hm2
  obtain ⟨V3, hV3⟩ : ∃ V3 : Hv, ({ V2 with bs := layL V2.bs o p.b } : Hv) = V3 := ⟨_, rfl⟩
  rw [hV3] at HF4
  have HV3 := Lib.hid hV3
  have hth3 : V3.th = V2.th := by rw [← hV3]
  have Hth3 := Lib.hid hth3
  clear hV3 hth3
  have HP4 : Hid (∀ W, Did w4 W G2 G2 → IpAt W B0 p (.slice A p.b.length c)) := Lib.hid (fun W hW => by
    have h1 := HD4.out.block B0 HP.out.lt (fun h => by have := Hlt.out B0 h; have := HB0.out; omega)
    have h2 := hW.block B0 (Nat.lt_of_lt_of_le HP.out.lt HD4.out.size) HG2.out
    exact (h2.trans h1).trans HP.out)
  obtain ⟨c0, c1, c2', c3, c4, c5, c6, c7, c8, c9⟩ := (HP4.out w4 (Did.refl _ _)).cells
  rw [HL.out] at c9
  clear c0 c1 c2' c3 c4 c5 c6 c7 c8
  go_wp2_with fail
  clear c9
  go_loopw [4, 5, 43] (fun s4 s5 s43 wr => ∃ k : Nat, s43 = .int .i64 (k : Int) ∧ k ≤ L ∧ HeapAt wr G2 g t { V3 with th := setN V3.th o k } bv2 tv2 ∧ Did w4 wr G2 G2) (fun _ _ s43 _ => L - (intOf s43).toNat)
  case atStart =>
    exact ⟨0, rfl, Nat.zero_le _, HF4.out, Did.refl _ _⟩
  case round =>
    obtain ⟨k, rfl, hk, hF, hD⟩ := hrel
    have HF := Lib.hid hF
    have HDr := Lib.hid hD
    obtain ⟨c0, c1, c2', c3, c4, c5, c6, c7, c8, c9⟩ := (HP4.out wr hD).cells
    rw [Ho.out] at c4
    rw [HL.out] at c9
    clear c0 c1 c2' c5 c6 c7 c8 hF hD
    by_cases hlt : k < L
    · have q1 : decide ((k : Int) < (L : Int)) = true := decide_eq_true (by omega)
      obtain ⟨M, hM⟩ : ∃ M, o + k = M := ⟨_, rfl⟩
      have qa : IntKind.i64.wrap ((o : Int) + (k : Int)) = (M : Int) := by rw [IntKind.wrap_i64]; have := Hfar.out; have := Ho.out; have := HL.out; omega
      have hMt : M < V3.th.length := by rw [Hth3.out]; have := Hlt2.out; omega
      obtain ⟨x, hx⟩ : ∃ x, V3.th[M]? = some x := ⟨V3.th[M]'hMt, List.getElem?_eq_getElem hMt⟩
      have hxk : (setN V3.th o k)[M]? = some x := by rw [setN_get _ _ _ _ (by omega), if_neg (by omega)]; exact hx
      obtain ⟨A3, c3', ht3, hl3, hm3, hi3⟩ := own_shape HF.out.t
      obtain ⟨gt, hA3, hgt, cM⟩ := hi3 M (.bool x) (by
        show ((setN V3.th o k).map Value.bool)[M]? = _
        rw [List.getElem?_map, hxk]
        rfl)
      have k12 : wr.cell? ⟨g, 12, none⟩ = some tv2 := HF.out.cell 12
      have hlen : (setN V3.th o k).length = V3.th.length := setN_len _ _ _
      obtain ⟨N3, hN3⟩ : ∃ N3, V3.th.length = N3 := ⟨_, rfl⟩
      have c12 : wr.cell? ⟨g, 12, none⟩ = some (.slice (some ⟨gt, 0, none⟩) N3 c3') := by
        rw [k12, ht3, hA3]
        show some (Value.slice _ (setN V3.th o k).length c3') = _
        rw [hlen, hN3]
      have hMN : M < N3 := by rw [← hN3]; exact hMt
      have Hxk := Lib.hid hxk
      have HM := Lib.hid hM
      have HMt := Lib.hid hMt
      have Hgt := Lib.hid hgt
      have FM : wr.frozen? ⟨gt, M, none⟩ = false := by
        obtain ⟨cc, hcc⟩ := own_block HF.out.t hgt
        exact frozen_of_row wr gt M _ _ hcc
      have hgne : gt ≠ g := fun e => own_ne HF.out.t HF.out.row ty_ne.2.1 (hgt.trans (congrArg some e))
      obtain ⟨n, hn⟩ : ∃ n, (setN V3.th o k).count true = n := ⟨_, rfl⟩
      have hnle : n ≤ N3 := by rw [← hn, ← hN3, ← hlen]; exact List.count_le_length
      have hN3le : N3 ≤ 65515 := by rw [← hN3, Hth3.out]; have := Hlt2.out; have := Hl.out; have := Hs.out; have := Hfar.out; have := Ho.out; have := HL.out; omega
      have c13 : (wr.setCell ⟨gt, M, none⟩ (.bool true)).cell? ⟨g, 13, none⟩ = some (.int .i64 (n : Int)) := by
        rw [World.cell?_of_block (heap_setCell_other wr ⟨gt, M, none⟩ g _ (Ne.symm hgne)), HF.out.cell 13]
        show some (Value.int .i64 ((setN V3.th o k).count true : Nat)) = _
        rw [hn]
      have F13 : (wr.setCell ⟨gt, M, none⟩ (.bool true)).frozen? ⟨g, 13, none⟩ = false := by rw [World.frozen?_setCell]; exact frozen_of_row wr g 13 _ _ HF.out.row
      have qn : IntKind.i64.wrap ((n : Int) + 1) = ((n + 1 : Nat) : Int) := by rw [IntKind.wrap_i64]; omega
      obtain ⟨n1, hn1⟩ : ∃ n1 : Int, ((n + 1 : Nat) : Int) = n1 := ⟨_, rfl⟩
      rw [hn1] at qn
      have HMk := Lib.hid (fun (hf : (setN V3.th o k)[M]? = some false) => HF.out.mark hgt hf (n := n1) (by rw [← hn1, ← hn]))
      have Hn := Lib.hid hn
      clear k12 ht3 hA3 hi3 hlen hN3 hx hxk hM hMt hgt hn hgne hnle hn1
      have hkb : (k : Int) + 1 ≤ 65536 := by have := Hfar.out; have := Ho.out; have := HL.out; omega
      cases x with
      | true =>
        as_aux_lemma =>
        clear c13 F13 FM qn
        go_wp2_with fail
        refine ⟨⟨k + 1, by simp, by omega, ?_, HDr.out⟩, by simp [intOf]; omega⟩
        have he : setN V3.th o (k + 1) = setN V3.th o k := by
          show (setN V3.th o k).set (o + k) true = _
          rw [HM.out]
          exact set_sameH Hxk.out
        rw [he]
        exact HF.out
      | false =>
        as_aux_lemma =>
        go_wp2_with fail
        refine ⟨⟨k + 1, by simp, by omega, ?_, HDr.out.trans (HMk.out Hxk.out).2⟩, by simp [intOf]; omega⟩
        have he : setN V3.th o (k + 1) = (setN V3.th o k).set M true := by rw [← HM.out]; rfl
        rw [he]
        exact (HMk.out Hxk.out).1
    · have q1 : decide ((k : Int) < (L : Int)) = false := decide_eq_false (by omega)
      obtain rfl : k = L := by omega
      have c14 : wr.cell? ⟨g, 14, none⟩ = some (.bool v.en) := by
        rw [HF.out.cell 14]
        show some (Value.bool V3.en) = _
        rw [← HV3.out]
        show some (Value.bool V2.en) = _
        rw [EV.out.2.2.2]
      have F14 : wr.frozen? ⟨g, 14, none⟩ = false := frozen_of_row wr g 14 _ _ HF.out.row
      have HC := Lib.hid (HF.out.close (v.en || !p.mf))
      have Hfin : Hid (({ { V3 with th := setN V3.th o k } with en := v.en || !p.mf } : Hv) = v.add p) := Lib.hid (by
        have hot : p.off.toNat = o := by have := Ho.out; omega
        unfold Hv.add
        rw [hot, HL.out, Hf1.out, Hth3.out, EV.out.2.1]
        have h3f : V3.f = f1 := by rw [← HV3.out]; exact EV.out.2.2.1
        have h3b : V3.bs = layL (growL v.bs 0 (o + k)) o p.b := by
          rw [← HV3.out]
          show layL V2.bs o p.b = _
          rw [EV.out.1]
        rw [h3f, h3b])
      rw [Hfin.out] at HC
      have HB0' := Lib.hid (fun (W : World) (hW : Did W0 W G G2) => (Did.of_below HB.out : Did w W0 G G).trans hW)
      clear hlt hk c9 c4
      obtain ⟨mf, hmf⟩ : ∃ mf, p.mf = mf := ⟨_, rfl⟩
      obtain ⟨en, hen⟩ : ∃ en, v.en = en := ⟨_, rfl⟩
      rw [hmf] at c3 HC ⊢
      rw [hen] at c14 HC
      clear hmf hen
      cases en with
      | true =>
        go_wp2_with fail
        go_end0
        exact ⟨rfl, G2, _, _, HC.out.1, HB0'.out _ ((HD4.out.trans HDr.out).trans HC.out.2)⟩
      | false =>
        cases mf with
        | true =>
          go_wp2_with fail
          go_end0
          exact ⟨rfl, G2, _, _, HC.out.1, HB0'.out _ ((HD4.out.trans HDr.out).trans HC.out.2)⟩
        | false =>
          go_wp2_with fail
          go_end0
          exact ⟨rfl, G2, _, _, HC.out.1, HB0'.out _ ((HD4.out.trans HDr.out).trans HC.out.2)⟩
end Go.Proofs.YtdmogppkambgaaaDoor
namespace Go.Proofs.YtdmogppkambgaaaDoor
open Go.RowKit

theorem rd_at {w : World} {A : Option Addr} {n c : Nat} {bs : List UInt8} (h : Rd w (.slice A n c) bs) {k : Nat} {u : UInt8} (hk : bs[k]? = some u) : ∃ g o, A = some ⟨g, o, none⟩ ∧ w.cell? ⟨g, o + k, none⟩ = some (B8 u) := by
  obtain ⟨A', c', e, _, hi⟩ := h
  cases e
  obtain ⟨g, o, rfl, hj⟩ := hi (by have := (List.getElem?_eq_some_iff.1 hk).1; omega)
  exact ⟨g, o, rfl, hj k u hk⟩
/-- The tests ahead of the bytes. -/
def Hv.Ends (v : Hv) (p : Ip) : Prop := (v.en = true → p.off + (p.b.length : Int) ≤ v.bs.length) ∧ (p.mf = false → (v.bs.length : Int) ≤ p.off + p.b.length)
def GoesAt (v : Hv) (p : Ip) (w : World) (e : Ending) (w' : World) : Prop := ∃ b : Bool, e = .returned (.bool b) ∧ (b = true ↔ v.Goes p) ∧ Below w.heap.size w w'

set_option maxRecDepth 100000 in
set_option maxHeartbeats 4000000 in
theorem hgoes_any (p : Ip) (hbad : p.bad = 0) {A : Option Addr} {c : Nat} (_ : c ≤ 9223372036854775807) {w : World} (hr : Rd w (.slice A p.b.length c) p.b) {G : Nat → Prop} {g : Nat} {t : Int} {v : Hv} {bv tv : Value}
    (hl : v.th.length = v.bs.length) (hs : v.bs.length ≤ 65515) (hlt : ∀ k, G k → k < w.heap.size) (h : HeapAt w G g t v bv tv) :
    Calls Tryd.prog 44 #[.pointer (some ⟨g, 0, none⟩), p.val (.slice A p.b.length c)] w (GoesAt v p w) := by
  have hR := (Ip.right_iff p).1 hbad
  obtain ⟨o, ho⟩ : ∃ o : Nat, p.off = o := ⟨p.off.toNat, by have := hR.off0; omega⟩
  have Hfar := Lib.hid hR.far
  have HB := Lib.hid (below_al (Below.refl _ w) (p.obj (.slice A p.b.length c)))
  have HP := Lib.hid (IpAt.new w p (.slice A p.b.length c))
  have H0 := Lib.hid (h.at (w' := w.alloc (p.obj (.slice A p.b.length c))) (fun k hk => Below.block (below_al (Below.refl _ w) _) k (hlt k hk)))
  have Hr := Lib.hid (hr.below HB.out)
  have Ho := Lib.hid ho
  have Hl := Lib.hid hl
  have Hs := Lib.hid hs
  rw [Ip.val_lit]
  unfold Ip.obj at HB HP H0 Hr
  clear hlt hl hs hr h hR hbad ho
  go_enter Tryd.func44, Tryd.ntmps44
  go_upto_region 1 with fail
  obtain ⟨W0, hW0⟩ : ∃ W0, w.alloc (.cells #[.int .u8 p.tos, .int .u16 p.id, .bool p.df, .bool p.mf, .int .i64 p.off, .int .u8 p.ttl, .int .u8 p.proto, .int .u32 p.src, .int .u32 p.dst, .slice A p.b.length c] 42) = W0 := ⟨_, rfl⟩
  rw [hW0] at HB HP H0 Hr ⊢
  obtain ⟨B0, hB0⟩ : ∃ B0, w.heap.size = B0 := ⟨_, rfl⟩
  have HB0 := Lib.hid hB0
  rw [hB0] at HP ⊢
  clear hW0 hB0
  obtain ⟨c0, c1, c2, c3, c4, c5, c6, c7, c8, c9⟩ := HP.out.cells
  obtain ⟨L, hL⟩ : ∃ L, p.b.length = L := ⟨_, rfl⟩
  have HL := Lib.hid hL
  obtain ⟨E, hE⟩ : ∃ E : Int, p.off + (L : Int) = E := ⟨_, rfl⟩
  have q1 : IntKind.i64.wrap (p.off + (L : Int)) = E := by have := Hfar.out; have := Ho.out; rw [IntKind.wrap_i64]; omega
  have HE := Lib.hid hE
  rw [hL] at c9 ⊢
  obtain ⟨A2, c2', hb2, hl2, hm2, hi2⟩ := own_shape H0.out.b
  have c11 : W0.cell? ⟨g, 11, none⟩ = some bv := H0.out.cell 11
  have c14 : W0.cell? ⟨g, 14, none⟩ = some (.bool v.en) := H0.out.cell 14
  obtain ⟨N, hN⟩ : ∃ N, v.bs.length = N := ⟨_, rfl⟩
  have HN := Lib.hid hN
  rw [hb2, hN] at c11
  rw [hN] at hl2
  have Hi2 := Lib.hid hi2
  have Hb2 := Lib.hid hb2
  clear hL hE c0 c1 c2 c5 c6 c7 c8 hi2 hb2 hN
  go_upto_region 2 with fail
  clear q1
  obtain ⟨mf, hmf⟩ : ∃ mf, p.mf = mf := ⟨_, rfl⟩
  obtain ⟨en, hen⟩ : ∃ en, v.en = en := ⟨_, rfl⟩
  rw [hmf] at c3 ⊢
  rw [hen] at c14
  have HMf := Lib.hid hmf
  have HEn0 := Lib.hid hen
  clear hmf hen
  go_cut [41] (fun s41 wx => ∃ x : Bool, s41 = .bool x ∧ (x = false ↔ v.Ends p) ∧ wx = W0)
  case first =>
    have hEn : v.Ends p ↔ ((v.en = true → E ≤ (N : Int)) ∧ (p.mf = false → (N : Int) ≤ E)) := by
      unfold Hv.Ends
      rw [HL.out, HE.out, HN.out]
    have HEn := Lib.hid hEn
    clear hEn c9 c4
    rw [HMf.out, HEn0.out] at HEn
    by_cases h1 : (N : Int) < E
    · have r1 : decide (E > (N : Int)) = true := decide_eq_true h1
      have r2 : decide (E < (N : Int)) = false := decide_eq_false (by omega)
      cases en with
      | true =>
        go_wp2_with fail
        go_meet
        exact ⟨true, rfl, ⟨fun e => (by cases e), fun e => absurd ((HEn.out.1 e).1 (by simp)) (by omega)⟩, rfl⟩
      | false =>
        cases mf <;> (go_wp2_with fail; go_meet; exact ⟨false, rfl, ⟨fun _ => HEn.out.2 ⟨fun e => (by cases e), fun _ => by omega⟩, fun _ => rfl⟩, rfl⟩)
    · have r1 : decide (E > (N : Int)) = false := decide_eq_false h1
      by_cases h2 : E < (N : Int)
      · have r2 : decide (E < (N : Int)) = true := decide_eq_true h2
        cases mf with
        | true => cases en <;> (go_wp2_with fail; go_meet; exact ⟨false, rfl, ⟨fun _ => HEn.out.2 ⟨fun _ => by omega, fun e => (by cases e)⟩, fun _ => rfl⟩, rfl⟩)
        | false => cases en <;> (go_wp2_with fail; go_meet; exact ⟨true, rfl, ⟨fun e => (by cases e), fun e => absurd ((HEn.out.1 e).2 (by simp)) (by omega)⟩, rfl⟩)
      · have r2 : decide (E < (N : Int)) = false := decide_eq_false h2
        cases mf <;> cases en <;> (go_wp2_with fail; go_meet; exact ⟨false, rfl, ⟨fun _ => HEn.out.2 ⟨fun _ => by omega, fun _ => by omega⟩, fun _ => rfl⟩, rfl⟩)
  obtain ⟨x, rfl, hx, hwc⟩ := hcut
  subst hwc
  generalize wc = W0 at *
  have Hx := Lib.hid hx
  clear hx c3 c11 c14
  cases x with
  | true =>
    have hn : ¬ v.Goes p := fun h => by
      have := Hx.out.2 ⟨h.a, h.b⟩
      cases this
    have Hn := Lib.hid hn
    clear hn c4 c9
    go_wp2_with fail
    go_ret
    exact ⟨false, rfl, ⟨fun e => (by cases e), fun h => absurd h Hn.out⟩, HB.out⟩
  | false =>
    rw [Ho.out] at c4
    have C4 := Lib.hid c4
    clear c4
    go_wp2_with fail
    go_loopw [6, 7, 8, 45] (fun _ _ _ s45 wr => ∃ k : Nat, s45 = .int .i64 (k : Int) ∧ k ≤ L ∧ wr = W0 ∧ ∀ i, i < k → v.th[o + i]? = some true → v.bs[o + i]? = p.b[i]?) (fun _ _ _ s45 _ => L - (intOf s45).toNat)
    case atStart =>
      exact ⟨0, rfl, Nat.zero_le _, rfl, fun i hi => absurd hi (Nat.not_lt_zero _)⟩
    case round =>
      obtain ⟨k, rfl, hk, hwr, hI⟩ := hrel
      subst hwr
      generalize wr = W0 at *
      have HI := Lib.hid hI
      clear hI
      by_cases hlt : k < L
      · have q1 : decide ((k : Int) < (L : Int)) = true := decide_eq_true (by omega)
        obtain ⟨M, hM⟩ : ∃ M, o + k = M := ⟨_, rfl⟩
        have hb1 : o + L ≤ 65515 := by have := Hfar.out; have := Ho.out; have := HL.out; omega
        have qa : IntKind.i64.wrap ((o : Int) + (k : Int)) = (M : Int) := by rw [IntKind.wrap_i64]; omega
        have hkb : (k : Int) + 1 ≤ 65536 := by omega
        have hkl : k < p.b.length := by rw [HL.out]; exact hlt
        obtain ⟨u, hu⟩ : ∃ u, p.b[k]? = some u := ⟨p.b[k]'hkl, List.getElem?_eq_getElem hkl⟩
        obtain ⟨ga, oa, rfl, ck0⟩ := rd_at Hr.out hu
        obtain ⟨ui, hui⟩ : ∃ ui : Int, (u.toNat : Int) = ui := ⟨_, rfl⟩
        have ck : W0.cell? ⟨ga, oa + k, none⟩ = some (.int .u8 ui) := by rw [← hui]; exact ck0
        have Hui := Lib.hid hui
        clear ck0 hui
        have c4 := C4.out
        have X := Lib.hid (has_any M (by omega) H0.out)
        have Hu := Lib.hid hu
        have HM := Lib.hid hM
        have c11 : W0.cell? ⟨g, 11, none⟩ = some bv := H0.out.cell 11
        rw [Hb2.out, HN.out] at c11
        obtain ⟨x, hx⟩ : ∃ x, decide (v.th[M]? = some true) = x := ⟨_, rfl⟩
        rw [hx] at X
        have Hxx := Lib.hid hx
        clear hu hM hx hkl hb1
        cases x with
        | false =>
          as_aux_lemma =>
          clear c11
          go_wp2_with (go_at_call 58; (with_reducible refine X.out.mono ?_); rintro e w1 ⟨rfl, hw1⟩; subst w1)
          refine ⟨⟨k + 1, by simp, by omega, (by first | exact trivial | rfl), fun i hi hth => ?_⟩, by simp [intOf]; omega⟩
          by_cases hik : i < k
          · exact HI.out i hik hth
          · obtain rfl : i = k := by omega
            have := Hxx.out
            rw [HM.out] at hth
            simp [hth] at this
        | true =>
          have htM : v.th[M]? = some true := by have := Hxx.out; simpa using this
          have hMl : M < v.bs.length := by rw [← Hl.out]; exact (List.getElem?_eq_some_iff.1 htM).1
          obtain ⟨y, hy⟩ : ∃ y, v.bs[M]? = some y := ⟨v.bs[M]'hMl, List.getElem?_eq_getElem hMl⟩
          obtain ⟨gb, rfl, _, cM0⟩ := Hi2.out M (B8 y) (by rw [List.getElem?_map, hy]; rfl)
          obtain ⟨yi, hyi⟩ : ∃ yi : Int, (y.toNat : Int) = yi := ⟨_, rfl⟩
          have cM : W0.cell? ⟨gb, M, none⟩ = some (.int .u8 yi) := by rw [← hyi]; exact cM0
          have Hyi := Lib.hid hyi
          clear cM0 hyi
          have hMN : M < N := by rw [← HN.out]; exact hMl
          have Hy := Lib.hid hy
          have HtM := Lib.hid htM
          clear hy htM hMl
          by_cases hyu : y = u
          · have q2 : (yi != ui) = false := by rw [← Hyi.out, ← Hui.out, hyu]; simp
            have Hyu := Lib.hid hyu
            clear hyu
            as_aux_lemma =>
            go_wp2_with (go_at_call 58; (with_reducible refine X.out.mono ?_); rintro e w1 ⟨rfl, hw1⟩; subst w1)
            refine ⟨⟨k + 1, by simp, by omega, (by first | exact trivial | rfl), fun i hi hth => ?_⟩, by simp [intOf]; omega⟩
            by_cases hik : i < k
            · exact HI.out i hik hth
            · obtain rfl : i = k := by omega
              rw [HM.out, Hy.out, Hu.out, Hyu.out]
          · have q2 : (yi != ui) = true := by
              rw [← Hyi.out, ← Hui.out]
              simp only [bne_iff_ne, ne_eq]
              intro e
              exact hyu (UInt8.toNat_inj.1 (by omega))
            have Hyu := Lib.hid hyu
            clear hyu
            as_aux_lemma =>
            go_wp2_with (go_at_call 58; (with_reducible refine X.out.mono ?_); rintro e w1 ⟨rfl, hw1⟩; subst w1)
            go_ret
            refine ⟨false, rfl, ⟨fun e => (by cases e), fun h => ?_⟩, HB.out⟩
            have h1 := h.c k (by rw [HL.out]; exact hlt)
            have hot : p.off.toNat = o := by have := Ho.out; omega
            rw [hot, HM.out] at h1
            have h2 := h1 HtM.out
            rw [Hy.out, Hu.out] at h2
            exact absurd (Option.some.inj h2) Hyu.out
      · have q1 : decide ((k : Int) < (L : Int)) = false := decide_eq_false (by omega)
        obtain rfl : k = L := by omega
        go_wp2_with fail
        go_ret
        refine ⟨true, rfl, ⟨fun _ => ?_, fun _ => rfl⟩, HB.out⟩
        have hx : v.Ends p := Hx.out.1 (by simp)
        have hot : p.off.toNat = o := by have := Ho.out; omega
        exact ⟨hx.1, hx.2, fun i hi => by rw [hot]; exact HI.out i (by rw [← HL.out]; exact hi)⟩
end Go.Proofs.YtdmogppkambgaaaDoor
namespace Go.Proofs.YtdmogppkambgaaaDoor
open Go.RowKit

def zeroIp : Array Value := #[.int .u8 0, .int .u16 0, .bool false, .bool false, .int .i64 0, .int .u8 0, .int .u8 0, .int .u32 0, .int .u32 0, .slice none 0 0]
set_option maxRecDepth 100000 in
set_option maxHeartbeats 2000000 in
theorem hpacket_any {w : World} {G : Nat → Prop} {g : Nat} {t : Int} {v : Hv} {bv tv : Value} (h : HeapAt w G g t v bv tv) :
    Calls Tryd.prog 47 #[.pointer (some ⟨g, 0, none⟩)] w fun e w' => e = .returned (v.told.val bv) ∧ Below w.heap.size w w' := by
  have c1 : w.cell? ⟨g, 1, none⟩ = some (.int .u8 v.f.tos) := h.cell 1
  have c2 : w.cell? ⟨g, 2, none⟩ = some (.int .u16 v.f.id) := h.cell 2
  have c3 : w.cell? ⟨g, 3, none⟩ = some (.bool v.f.df) := h.cell 3
  have c4 : w.cell? ⟨g, 4, none⟩ = some (.bool v.f.mf) := h.cell 4
  have c5 : w.cell? ⟨g, 5, none⟩ = some (.int .i64 v.f.off) := h.cell 5
  have c6 : w.cell? ⟨g, 6, none⟩ = some (.int .u8 v.f.ttl) := h.cell 6
  have c7 : w.cell? ⟨g, 7, none⟩ = some (.int .u8 v.f.proto) := h.cell 7
  have c8 : w.cell? ⟨g, 8, none⟩ = some (.int .u32 v.f.src) := h.cell 8
  have c9 : w.cell? ⟨g, 9, none⟩ = some (.int .u32 v.f.dst) := h.cell 9
  have c10 : w.cell? ⟨g, 10, none⟩ = some (.slice none 0 0) := h.cell 10
  have hg := (Array.getElem?_eq_some_iff.1 h.row).1
  have H := Lib.hid h
  obtain ⟨A2, c2', hb2, _, hcm, _⟩ := own_shape h.b
  have Hb2 := Lib.hid hb2
  unfold Hv.told Ip.val Ip.row
  generalize hF : v.f = f at *
  clear h hb2
  go_enter Tryd.func47, Tryd.ntmps47
  go_upto_region 2 with (refine wpList_store_row rfl 42 (.tmp 3) (.tmp 7) rfl (w.heap.size + 1) #[.int .u8 f.tos, .int .u16 f.id, .bool f.df, .bool f.mf, .int .i64 f.off, .int .u8 f.ttl, .int .u8 f.proto, .int .u32 f.src, .int .u32 f.dst, .slice none 0 0] rfl rfl 42 _ (by first | exact heap_alloc_new _ _ | (have := heap_alloc_new (w.alloc (.cells #[.int .u8 0, .int .u16 0, .bool false, .bool false, .int .i64 0, .int .u8 0, .int .u8 0, .int .u32 0, .int .u32 0, .slice none 0 0] 42)) (.cells #[.int .u8 0, .int .u16 0, .bool false, .bool false, .int .i64 0, .int .u8 0, .int .u8 0, .int .u32 0, .int .u32 0, .slice none 0 0] 42); simpa using this)) ipSize rfl (by simp [Value.oneCell']) ?_)
  obtain ⟨W1, hW1⟩ : ∃ W1, (w.alloc (.cells #[.int .u8 0, .int .u16 0, .bool false, .bool false, .int .i64 0, .int .u8 0, .int .u8 0, .int .u32 0, .int .u32 0, .slice none 0 0] 42)).alloc (.cells #[.int .u8 f.tos, .int .u16 f.id, .bool f.df, .bool f.mf, .int .i64 f.off, .int .u8 f.ttl, .int .u8 f.proto, .int .u32 f.src, .int .u32 f.dst, .slice none 0 0] 42) = W1 := ⟨_, rfl⟩
  have HB := Lib.hid (below_al (below_al (Below.refl _ w) (.cells #[.int .u8 0, .int .u16 0, .bool false, .bool false, .int .i64 0, .int .u8 0, .int .u8 0, .int .u32 0, .int .u32 0, .slice none 0 0] 42)) (.cells #[.int .u8 f.tos, .int .u16 f.id, .bool f.df, .bool f.mf, .int .i64 f.off, .int .u8 f.ttl, .int .u8 f.proto, .int .u32 f.src, .int .u32 f.dst, .slice none 0 0] 42))
  have HK : Hid (IpAt W1 (w.heap.size + 1) f (.slice none 0 0)) := Lib.hid (by
    rw [← hW1]
    have := heap_alloc_new (w.alloc (.cells #[.int .u8 0, .int .u16 0, .bool false, .bool false, .int .i64 0, .int .u8 0, .int .u8 0, .int .u32 0, .int .u32 0, .slice none 0 0] 42)) (f.obj (.slice none 0 0))
    rw [World.size_alloc] at this
    exact this)
  have HZ : Hid (W1.heap[w.heap.size]? = some (.cells #[.int .u8 0, .int .u16 0, .bool false, .bool false, .int .i64 0, .int .u8 0, .int .u8 0, .int .u32 0, .int .u32 0, .slice none 0 0] 42 (0, 0))) := Lib.hid (by
    rw [← hW1]
    exact (heap_alloc_old _ _ (by simp)).trans (heap_alloc_new w _))
  rw [hW1] at HB ⊢
  have c11 : W1.cell? ⟨g, 11, none⟩ = some (.slice A2 v.bs.length c2') := by
    rw [← Hb2.out]
    exact (HB.out.cell (p := ⟨g, 11, none⟩) hg).trans (H.out.cell 11)
  obtain ⟨K, hK⟩ : ∃ K, w.heap.size + 1 = K := ⟨_, rfl⟩
  rw [hK] at HK ⊢
  have HKe := Lib.hid hK
  have k3 : W1.cell? ⟨K, 3, none⟩ = some (.bool f.mf) := HK.out.cells.2.2.2.1
  have k4 : W1.cell? ⟨K, 4, none⟩ = some (.int .i64 f.off) := HK.out.cells.2.2.2.2.1
  have k9 : W1.cell? ⟨K, 9, none⟩ = some (.slice none 0 0) := HK.out.cells.2.2.2.2.2.2.2.2.2
  have f3 := HK.out.free 3
  have f4 := HK.out.free 4
  have f9 := HK.out.free 9
  have hgK : g ≠ K := by omega
  clear hW1 hK c1 c2 c3 c4 c5 c6 c7 c8 c9 c10
  generalize v.bs.length = N at c11 Hb2
  go_region
  have HK2 : Hid (IpAt (((W1.setCell ⟨K, 4, none⟩ (.int .i64 0)).setCell ⟨K, 3, none⟩ (.bool false)).setCell ⟨K, 9, none⟩ (.slice A2 N c2')).drew K { f with off := 0, mf := false } (.slice A2 N c2')) := Lib.hid (by
    have h1 := heap_setCell_same W1 K 4 _ _ (.int .i64 0) HK.out
    have h2 := heap_setCell_same _ K 3 _ _ (.bool false) h1
    have h3 := heap_setCell_same _ K 9 _ _ (.slice A2 N c2') h2
    exact h3)
  have HZ2 : Hid ((((W1.setCell ⟨K, 4, none⟩ (.int .i64 0)).setCell ⟨K, 3, none⟩ (.bool false)).setCell ⟨K, 9, none⟩ (.slice A2 N c2')).drew.heap[w.heap.size]? = some (.cells #[.int .u8 0, .int .u16 0, .bool false, .bool false, .int .i64 0, .int .u8 0, .int .u8 0, .int .u32 0, .int .u32 0, .slice none 0 0] 42 (0, 0))) := Lib.hid (by
    have hne : w.heap.size ≠ K := by have := HKe.out; omega
    exact ((heap_setCell_other _ ⟨K, 9, none⟩ _ _ hne).trans ((heap_setCell_other _ ⟨K, 3, none⟩ _ _ hne).trans (heap_setCell_other _ ⟨K, 4, none⟩ _ _ hne))).trans HZ.out)
  have HB2 : Hid (Below w.heap.size w (((W1.setCell ⟨K, 4, none⟩ (.int .i64 0)).setCell ⟨K, 3, none⟩ (.bool false)).setCell ⟨K, 9, none⟩ (.slice A2 N c2')).drew) := Lib.hid (by
    have hne : w.heap.size ≤ K := by have := HKe.out; omega
    have h := ((HB.out.setCell (p := ⟨K, 4, none⟩) hne (.int .i64 0)).setCell (p := ⟨K, 3, none⟩) hne (.bool false)).setCell (p := ⟨K, 9, none⟩) hne (.slice A2 N c2')
    exact ⟨h.os, h.tape, h.output, h.size, h.block⟩)
  generalize (((W1.setCell ⟨K, 4, none⟩ (.int .i64 0)).setCell ⟨K, 3, none⟩ (.bool false)).setCell ⟨K, 9, none⟩ (.slice A2 N c2')).drew = W2 at HK2 HZ2 HB2 ⊢
  clear c11 k3 k4 k9 f3 f4 f9 HK HZ HB hgK
  obtain ⟨d0, d1, d2, d3, d4, d5, d6, d7, d8, d9⟩ := HK2.out.cells
  obtain ⟨Z, hZ⟩ : ∃ Z, w.heap.size = Z := ⟨_, rfl⟩
  have HZe := Lib.hid hZ
  have z2 := HZ2.out
  rw [hZ] at z2 ⊢
  have Z2 := Lib.hid z2
  clear HZ2 z2 hZ
  go_wp2_with (refine wpList_store_row rfl 42 (.tmp 2) (.tmp 15) rfl Z #[.int .u8 f.tos, .int .u16 f.id, .bool f.df, .bool false, .int .i64 0, .int .u8 f.ttl, .int .u8 f.proto, .int .u32 f.src, .int .u32 f.dst, .slice A2 N c2'] rfl rfl 42 _ Z2.out ipSize rfl (by simp [Value.oneCell']) ?_)
  (try simp only [Exit.inBlock, Exit.then])
  refine bodyPost_ret (results_cell_row rfl _ _ Z _ #[.int .u8 f.tos, .int .u16 f.id, .bool f.df, .bool false, .int .i64 0, .int .u8 f.ttl, .int .u8 f.proto, .int .u32 f.src, .int .u32 f.dst, .slice A2 N c2'] (0, 0) _ rfl (setRow_heap _ _ _ _ _ _ Z2.out) Tryd.underlying42 rfl ipSize) rfl ?_
  refine ⟨by rw [Hb2.out], ?_⟩
  have hb := HB2.out
  exact ⟨hb.os, hb.tape, hb.output, by rw [← HZe.out, Go.size_setRow]; exact hb.size, fun k hk => (Go.setRow_other _ _ _ _ (by have := HZe.out; omega)).trans (hb.block k (by have := HZe.out; omega))⟩
end Go.Proofs.YtdmogppkambgaaaDoor
namespace Go.Proofs.YtdmogppkambgaaaDoor
open Go.RowKit Go.Maps

structure KyIn (k : Ky) : Prop where
  s : k.1 < 4294967296
  d : k.2.1 < 4294967296
  p : k.2.2.1 < 256
  i : k.2.2.2 < 65536
theorem Ip.In.ky {p : Ip} (h : p.In) : KyIn p.key4 := ⟨h.src, h.dst, h.proto, h.id⟩
theorem kylit_wf {q : IntKind} {n : Nat} (h0 : q.min ≤ 0) (h : (n : Int) ≤ q.max) : (Lit.int q (n : Int)).wf = true := by
  simp [Lit.wf]
  omega
theorem ky_max : IntKind.u32.max = 4294967295 ∧ IntKind.u8.max = 255 ∧ IntKind.u16.max = 65535 := ⟨rfl, rfl, rfl⟩
theorem ky32_wf {n : Nat} (h : n < 4294967296) : (Lit.int .u32 (n : Int)).wf = true := kylit_wf (by decide) (by rw [ky_max.1]; omega)
theorem ky8_wf {n : Nat} (h : n < 256) : (Lit.int .u8 (n : Int)).wf = true := kylit_wf (by decide) (by rw [ky_max.2.1]; omega)
theorem ky16_wf {n : Nat} (h : n < 65536) : (Lit.int .u16 (n : Int)).wf = true := kylit_wf (by decide) (by rw [ky_max.2.2]; omega)
def keyV (k : Ky) : Value := .agg #[.int .u32 k.1, .int .u32 k.2.1, .int .u8 k.2.2.1, .int .u16 k.2.2.2]
def klit (k : Ky) : Lit := .string (keyBytes [.int .u32 k.1, .int .u32 k.2.1, .int .u8 k.2.2.1, .int .u16 k.2.2.2])
theorem fk_laid : laidOutB Tryd.prog = true := by kernel_rfl
theorem fk_row : (95 : TypeId) < Tryd.prog.types.size := of_decide_eq_true (by kernel_rfl)
theorem fk_wide : (match Tryd.prog.underlying 95 with | some (.array _ _) | some (.struct _) => true | _ => false) = true := by kernel_rfl
set_option maxRecDepth 100000 in
theorem fK : Keyed Tryd.prog 95 := Keyed.of_law (deep_law_laid fk_laid (m := 4) (by omega) fk_row (by kernel_rfl) fk_wide)
theorem fk_keyType : Tryd.prog.keyType 95 = true := by kernel_rfl
theorem fk_keyCells : Tryd.prog.cellsOf 95 = 4 := by kernel_rfl
theorem fk_keyF : ∃ (d : Nat) (f g h i : Field), Tryd.prog.types.size + 1 = d + 2 ∧ Tryd.prog.underlying 95 = some (.struct #[f, g, h, i]) ∧ (f.name != "_") = true ∧ (g.name != "_") = true ∧ (h.name != "_") = true ∧ (i.name != "_") = true ∧
    f.type = 40 ∧ f.offset = 0 ∧ g.type = 40 ∧ g.offset = 1 ∧ h.type = 5 ∧ h.offset = 2 ∧ i.type = 39 ∧ i.offset = 3 := ⟨_, _, _, _, _, rfl, Tryd.underlying95, by kernel_rfl, by kernel_rfl, by kernel_rfl, by kernel_rfl, rfl, rfl, rfl, rfl, rfl, rfl, rfl, rfl⟩
theorem cells_of : Tryd.prog.cellsOf 40 = 1 ∧ Tryd.prog.cellsOf 5 = 1 ∧ Tryd.prog.cellsOf 39 = 1 := ⟨by kernel_rfl, by kernel_rfl, by kernel_rfl⟩
theorem keyOf_key {k : Ky} (h : KyIn k) : keyOf Tryd.prog 95 (keyV k) = some (klit k) := by
  have h1 := ky32_wf h.s
  have h2 := ky32_wf h.d
  have h3 := ky8_wf h.p
  have h4 := ky16_wf h.i
  obtain ⟨n, f, g, h', i, hn, hu, a1, a2, a3, a4, e1, e2, e3, e4, e5, e6, e7, e8⟩ := fk_keyF
  obtain ⟨k1, k2, k3⟩ := cells_of
  have hfm : (keyV k).formed Tryd.prog 95 = true := by
    simp [Value.formed, hu, fk_keyCells, keyV]
  have hl : Tryd.prog.keyLits (Tryd.prog.types.size + 1) 95 (keyV k).cells.toList = some [.int .u32 k.1, .int .u32 k.2.1, .int .u8 k.2.2.1, .int .u16 k.2.2.2] := by
    rw [hn]
    unfold Program.keyLits
    rw [hu]
    simp [keyV, Value.cells, fk_keyCells, a1, a2, a3, a4, e1, e2, e3, e4, e5, e6, e7, e8, k1, k2, k3, Program.keyLits, Tryd.underlying40, Tryd.underlying5, Tryd.underlying39, h1, h2, h3, h4]
  unfold keyOf
  rw [hu]
  simp only [fk_keyType, hfm, hl]
  rfl
theorem keyLits_one {q : IntKind} {n : Nat} {t : TypeId} {x : Value} {l : List Lit} (hu : Tryd.prog.underlying t = some (.int q)) (h : Tryd.prog.keyLits n t [x] = some l) : ∃ a, x = .int q a ∧ l = [.int q a] ∧ (Lit.int q a).wf = true := by
  cases n with
  | zero => cases h
  | succ n =>
    unfold Program.keyLits at h
    rw [hu] at h
    cases x <;> simp at h
    obtain ⟨⟨rfl, hw⟩, rfl⟩ := h
    exact ⟨_, rfl, rfl, hw⟩
theorem wf_nat {q : IntKind} {a : Int} (h : (Lit.int q a).wf = true) (h0 : q.min = 0) : ∃ n : Nat, a = n ∧ (n : Int) ≤ q.max := by
  simp [Lit.wf, h0] at h
  exact ⟨a.toNat, by omega, by omega⟩
set_option maxRecDepth 100000 in
theorem keyOf_inv {v : Value} {l : Lit} (h : keyOf Tryd.prog 95 v = some l) : ∃ k, v = keyV k ∧ l = klit k ∧ KyIn k := by
  obtain ⟨n, f, g, h', i, hn, hu, a1, a2, a3, a4, e1, e2, e3, e4, e5, e6, e7, e8⟩ := fk_keyF
  obtain ⟨k1, k2, k3⟩ := cells_of
  unfold keyOf at h
  rw [hu] at h
  simp only [fk_keyType, Bool.true_and] at h
  split at h
  · rename_i hfm
    rw [Option.map_eq_some_iff] at h
    obtain ⟨ls, hl, rfl⟩ := h
    rw [hn] at hl
    unfold Program.keyLits at hl
    rw [hu] at hl
    cases v with
    | agg cs =>
      obtain ⟨cl⟩ := cs
      simp [Value.cells, fk_keyCells, a1, a2, a3, a4, e1, e2, e3, e4, e5, e6, e7, e8, k1, k2, k3] at hl
      obtain ⟨hz, hl⟩ := hl
      match cl, hz with
      | [x, y, z, u], _ =>
        simp [Option.bind_eq_some_iff] at hl
        obtain ⟨l1, h1, _, ⟨l2, h2, _, ⟨l3, h3, _, ⟨l4, h4, rfl⟩, rfl⟩, rfl⟩, rfl⟩ := hl
        obtain ⟨a, rfl, rfl, w1⟩ := keyLits_one Tryd.underlying40 h1
        obtain ⟨b, rfl, rfl, w2⟩ := keyLits_one Tryd.underlying40 h2
        obtain ⟨c, rfl, rfl, w3⟩ := keyLits_one Tryd.underlying5 h3
        obtain ⟨d, rfl, rfl, w4⟩ := keyLits_one Tryd.underlying39 h4
        obtain ⟨a, rfl, b1⟩ := wf_nat w1 rfl
        obtain ⟨b, rfl, b2⟩ := wf_nat w2 rfl
        obtain ⟨c, rfl, b3⟩ := wf_nat w3 rfl
        obtain ⟨d, rfl, b4⟩ := wf_nat w4 rfl
        have m1 : IntKind.u32.max = 4294967295 := by rfl
        have m2 : IntKind.u8.max = 255 := by rfl
        have m3 : IntKind.u16.max = 65535 := by rfl
        exact ⟨(a, b, c, d), rfl, rfl, ⟨by show a < _; omega, by show b < _; omega, by show c < _; omega, by show d < _; omega⟩⟩
    | _ => simp [Value.formed, hu] at hfm
  · cases h
theorem keyV_inj {k k' : Ky} (h : keyV k = keyV k') : k = k' := by
  obtain ⟨a, b, c, d⟩ := k
  obtain ⟨a', b', c', d'⟩ := k'
  simp [keyV] at h
  obtain ⟨h1, h2, h3, h4⟩ := h
  simp
  omega
theorem klit_inj {k k' : Ky} (h : KyIn k) (h' : KyIn k') (e : klit k = klit k') : k = k' := by
  have h1 := keyOf_key h
  have h2 := keyOf_key h'
  rw [← e] at h2
  exact keyV_inj (fK.inj h1 h2)
theorem klit_key (k : Ky) : WideAt.IsKeyLit (klit k) := trivial

open Classical in
/-- How a pointer in the map reads. -/
noncomputable def ptElem (v : Value) : Option (DataW Unit × List MemPlace) := if h : ∃ g : Nat, v = .pointer (some ⟨g, 0, none⟩) then some (.lit (.int .i64 (Classical.choose h : Nat)), []) else none
theorem ptElem_val (g : Nat) : ptElem (.pointer (some ⟨g, 0, none⟩)) = some (.lit (.int .i64 (g : Int)), []) := by
  have h : ∃ g' : Nat, Value.pointer (some ⟨g, 0, none⟩) = .pointer (some ⟨g', 0, none⟩) := ⟨g, rfl⟩
  unfold ptElem
  rw [dif_pos h]
  have := Classical.choose_spec h
  have e : g = Classical.choose h := by simpa using this
  rw [← e]
theorem ptElem_inv {v : Value} {z : DataW Unit × List MemPlace} (h : ptElem v = some z) : ∃ g : Nat, v = .pointer (some ⟨g, 0, none⟩) ∧ z = (.lit (.int .i64 (g : Int)), []) := by
  by_cases hv : ∃ g : Nat, v = .pointer (some ⟨g, 0, none⟩)
  · obtain ⟨g, rfl⟩ := hv
    rw [ptElem_val] at h
    exact ⟨g, rfl, (Option.some.inj h).symm⟩
  · unfold ptElem at h
    rw [dif_neg hv] at h
    cases h
/-- What the map reads as. -/
structure Reads (D : DataW Unit) (rep : Ky → Nat) (S : List Hp) : Prop where
  has : ∀ k, KyIn k → Maps.has D (klit k) = (hget S k).isSome
  at_ : ∀ k h, KyIn k → hget S k = some h → ∀ z, D.atKey (klit k) z = .lit (.int .i64 (rep k : Int))
  size : Maps.size D = S.length
theorem Reads.nil (rep : Ky → Nat) : Reads (.map []) rep [] := ⟨fun _ _ => rfl, fun _ _ _ h => (by cases h), rfl⟩
def repSet (rep : Ky → Nat) (k : Ky) (g : Nat) : Ky → Nat := fun i => if i = k then g else rep i
theorem Reads.put {D : DataW Unit} {rep : Ky → Nat} {S : List Hp} (h : Reads D rep S) (hD : Tidy D) {x : Hp} (hx : KyIn x.k) (hn : hget S x.k = none) (g : Nat) : Reads (D.put (klit x.k) (.lit (.int .i64 (g : Int)))) (repSet rep x.k g) (x :: S) where
  has k hk := by
    by_cases e : k = x.k
    · subst e
      rw [has_put_same hD.isMap (klit_key _), hget_cons_same]
      rfl
    · rw [has_put_other (fun j => e (klit_inj hk hx j)), h.has k hk, hget_cons_other e]
  at_ k s hk hl z := by
    by_cases e : k = x.k
    · subst e
      simp only [repSet, if_true]
      exact atKey_put_same hD.isMap (klit_key _) _ _
    · rw [atKey_put_other (fun j => e (klit_inj hk hx j))]
      rw [hget_cons_other e] at hl
      simp only [repSet, e, if_false]
      exact h.at_ k s hk hl z
  size := by rw [size_put hD, h.has _ hx, h.size, hn, List.length_cons]; rfl
theorem Reads.del {D : DataW Unit} {rep : Ky → Nat} {S : List Hp} (h : Reads D rep S) (hD : Tidy D) (hU : Un S) {k0 : Ky} (h0 : KyIn k0) : Reads (D.del (klit k0)) rep (hdel S k0) where
  has k hk := by
    by_cases e : k = k0
    · subst e
      rw [has_del_same, hget_hdel_same]
      rfl
    · rw [has_del_other (fun j => e (klit_inj hk h0 j)), h.has k hk, hget_hdel_other hU e]
  at_ k s hk hl z := by
    by_cases e : k = k0
    · subst e
      rw [hget_hdel_same] at hl
      cases hl
    · rw [atKey_del_other (fun j => e (klit_inj hk h0 j))]
      rw [hget_hdel_other hU e] at hl
      exact h.at_ k s hk hl z
  size := by
    have a := size_del (k := klit k0) hD
    have b := len_hdel hU k0
    rw [h.has _ h0, h.size] at a
    omega
/-- The same heaps, by their keys. -/
theorem Reads.alike {D : DataW Unit} {rep : Ky → Nat} {S S' : List Hp} (h : Reads D rep S) (hs : ∀ k, (hget S' k).isSome = (hget S k).isSome) (hl : S'.length = S.length) : Reads D rep S' where
  has k hk := (h.has k hk).trans (hs k).symm
  at_ k s hk hg z := by
    have := hs k
    rw [hg] at this
    cases e : hget S k with
    | none => rw [e] at this; cases this
    | some s' => exact h.at_ k s' hk e z
  size := h.size.trans hl.symm
theorem ownsMap_size {H : Type} {w : World} {P : Program} {k : TypeId} {R : Value → Option (DataW H × List MemPlace)} {b n : Nat} {D : DataW H} (h : w.ownsMap P k R b n D) : w.ownsMap P k R b (Maps.size D) D := by
  obtain ⟨es, clock, hb, F, hs, rfl⟩ := h
  exact ⟨es, clock, hb, F, by simp [Maps.size, length_sorted], rfl⟩

/-- The reassembler at r, whose map is b; all of it lies in the blocks F, and each heap in blocks of its own. -/
structure Tab (w : World) (r b : Nat) (F : Nat → Prop) (tm : Int) (Gs : Ky → Nat → Prop) (rep : Ky → Nat) (S : List Hp) : Prop where
  c0 : w.cell? ⟨r, 0, none⟩ = some (.int .u64 tm)
  c1 : w.cell? ⟨r, 1, none⟩ = some (.map (some b))
  own : ∃ D : DataW Unit, w.ownsMap Tryd.prog 95 ptElem b S.length D ∧ Reads D rep S
  heap : ∀ h ∈ S, ∃ v, Heap w (Gs h.k) (rep h.k) h.t v ∧ HvOk v h.l ∧ UW h.t
  apart : ∀ h ∈ S, ∀ h' ∈ S, h.k ≠ h'.k → ∀ i, Gs h.k i → ¬ Gs h'.k i
  home : ∀ h ∈ S, ∀ i, Gs h.k i → F i ∧ i ≠ r ∧ i ≠ b
  kin : ∀ h ∈ S, KyIn h.k
  un : Un S
  few : S.length ≤ 8
  tmw : UW tm
  fr : F r
  fb : F b
  flt : ∀ k, F k → k < w.heap.size
/-- The reassembler at r. -/
def Ra (w : World) (r : Nat) (F : Nat → Prop) (tm : Int) (S : List Hp) : Prop := ∃ b Gs rep, Tab w r b F tm Gs rep S
section
variable {w w' : World} {r b : Nat} {F : Nat → Prop} {tm : Int} {Gs : Ky → Nat → Prop} {rep : Ky → Nat} {S S' : List Hp}
theorem Tab.lt (h : Tab w r b F tm Gs rep S) : r < w.heap.size ∧ b < w.heap.size := ⟨h.flt r h.fr, h.flt b h.fb⟩
theorem Tab.at (h : Tab w r b F tm Gs rep S) (hk : ∀ k, F k → w'.heap[k]? = w.heap[k]?) (hs : w.heap.size ≤ w'.heap.size) : Tab w' r b F tm Gs rep S := by
  obtain ⟨D, ⟨es, clock, hb, Ft, h1, h2⟩, h3⟩ := h.own
  refine ⟨?_, ?_, ⟨D, ⟨es, clock, (hk b h.fb).trans hb, Ft, h1, h2⟩, h3⟩, fun x hx => ?_, h.apart, h.home, h.kin, h.un, h.few, h.tmw, h.fr, h.fb, fun k hF => Nat.lt_of_lt_of_le (h.flt k hF) hs⟩
  · rw [← h.c0]; exact World.cell?_of_block (hk r h.fr)
  · rw [← h.c1]; exact World.cell?_of_block (hk r h.fr)
  · obtain ⟨v, h4, h5⟩ := h.heap x hx
    exact ⟨v, h4.at (fun k hG => hk k (h.home x hx k hG).1) hs, h5⟩
theorem Tab.below (h : Tab w r b F tm Gs rep S) (hb : Below w.heap.size w w') : Tab w' r b F tm Gs rep S := h.at (fun k hF => hb.block k (h.flt k hF)) hb.size
theorem Tab.wide {F' : Nat → Prop} (h : Tab w r b F tm Gs rep S) (hF : ∀ k, F k → F' k) (hl : ∀ k, F' k → k < w.heap.size) : Tab w r b F' tm Gs rep S :=
  ⟨h.c0, h.c1, h.own, h.heap, h.apart, fun x hx i hi => ⟨hF i (h.home x hx i hi).1, (h.home x hx i hi).2⟩, h.kin, h.un, h.few, h.tmw, hF _ h.fr, hF _ h.fb, hl⟩
/-- The heaps in another order. -/
theorem Tab.perm (h : Tab w r b F tm Gs rep S) (hp : S'.Perm S) : Tab w r b F tm Gs rep S' := by
  obtain ⟨D, h1, h2⟩ := h.own
  exact ⟨h.c0, h.c1, ⟨D, by rw [hp.length_eq]; exact h1, h2.alike (fun k => by rw [hget_perm h.un hp]) hp.length_eq⟩, fun x hx => h.heap x (hp.mem_iff.1 hx), fun x hx y hy => h.apart x (hp.mem_iff.1 hx) y (hp.mem_iff.1 hy), fun x hx => h.home x (hp.mem_iff.1 hx), fun x hx => h.kin x (hp.mem_iff.1 hx), un_perm h.un hp, by rw [hp.length_eq]; exact h.few, h.tmw, h.fr, h.fb, h.flt⟩
/-- What a look-up gives. -/
def ptOf (o : Option Hp) (g : Nat) : Value := match o with | some _ => .pointer (some ⟨g, 0, none⟩) | none => .pointer none
/-- 'm[key]'. -/
theorem Tab.asked (h : Tab w r b F tm Gs rep S) {k : Ky} (hk : KyIn k) :
    (Instr.lookup 90 (.map (some b)) (keyV k) false).run Tryd.prog w = .ok (ptOf (hget S k) (rep k)) w := by
  obtain ⟨D, ⟨es, clock, hb, Ft, hn, rfl⟩, h2⟩ := h.own
  have hz : (zeroValue 97).run Tryd.prog w = .ok (.pointer none) w := by kernel_rfl
  rcases Maps.fit_look false fK Tryd.underlying90 hz hb Ft (keyOf_key hk) with ⟨hrun, _, hat⟩ | ⟨e0, y, _, _, hrun, hRv, hat, _⟩
  · have hnone : hget S k = none := by
      have := h2.has k hk
      rw [Maps.has_false_of_atKey hat] at this
      cases hl : hget S k with
      | none => rfl
      | some e => rw [hl] at this; cases this
    rw [hrun, hnone]
    rfl
  · have hsome := h2.has k hk
    rw [Maps.has_true_of_atKey hat] at hsome
    cases hl : hget S k with
    | none => rw [hl] at hsome; cases hsome
    | some e =>
      have h4 := h2.at_ k e hk hl (.map [])
      rw [hat] at h4
      obtain ⟨g, hg, hz⟩ := ptElem_inv hRv
      have hge : g = rep k := by
        rw [hz] at h4
        have h5 : ((g : Nat) : Int) = (rep k : Int) := by simpa using h4
        omega
      rw [hrun, hg, hge]
      rfl
/-- 'len(m)'. -/
theorem Tab.len (h : Tab w r b F tm Gs rep S) (ty : TypeId) : (Builtin.len_ #[90] ty #[.map (some b)]).run Tryd.prog w = .ok (.int .i64 (S.length : Int)) w := by
  obtain ⟨D, h1, h2⟩ := h.own
  rw [h1.len Tryd.underlying90 ty, h2.size]
theorem Tab.notMap (h : Tab w r b F tm Gs rep S) {q : Nat} {c : Array Value} {e : TypeId} {fr : Nat × Nat} (hq : w.heap[q]? = some (.cells c e fr)) : q ≠ b := fun e => by
  obtain ⟨D, ⟨es, clock, hb, _⟩, _⟩ := h.own
  rw [e, hb] at hq
  cases hq
theorem Tab.rb (h : Tab w r b F tm Gs rep S) : r ≠ b := by
  intro e
  have h1 := h.c0
  obtain ⟨D, ⟨es, clock, hb, _⟩, _⟩ := h.own
  rw [e] at h1
  simp [World.cell?, hb] at h1
/-- What stays, while the map turns. -/
theorem Tab.turned (_ : Tab w r b F tm Gs rep S) (ht : w.mapTurned w' b) : ∀ q, q < w.heap.size → q ≠ b → w'.heap[q]? = w.heap[q]? := fun q hq hn => ht.grown.block q hq (fun e => hn (Option.some.inj e))
/-- 'delete(m, key)'. -/
theorem Tab.drop (h : Tab w r b F tm Gs rep S) {k : Ky} (hk : KyIn k) (ty : TypeId) :
    ∃ w', (Builtin.delete_ #[90, 95] ty #[.map (some b), keyV k]).run Tryd.prog w = .ok (.tuple #[]) w' ∧ Tab w' r b F tm Gs rep (hdel S k) ∧ w.mapTurned w' b := by
  obtain ⟨D, h1, h2⟩ := h.own
  obtain ⟨w', hrun, k1, k2⟩ := h1.drop fK Tryd.underlying90 (keyOf_key hk) ty
  have h3 := h2.del (h1.tidy fK) h.un hk
  have same := h.turned k2
  refine ⟨w', hrun, ⟨?_, ?_, ⟨_, ?_, h3⟩, fun x hx => ?_, fun x hx y hy => h.apart x (mem_hdel.1 hx).1 y (mem_hdel.1 hy).1, fun x hx => h.home x (mem_hdel.1 hx).1, fun x hx => h.kin x (mem_hdel.1 hx).1, un_hdel h.un k, ?_, h.tmw, h.fr, h.fb, fun g hF => Nat.lt_of_lt_of_le (h.flt g hF) k2.grown.size⟩, k2⟩
  · rw [← h.c0]; exact World.cell?_of_block (same r h.lt.1 h.rb)
  · rw [← h.c1]; exact World.cell?_of_block (same r h.lt.1 h.rb)
  · rw [← h3.size]
    exact ownsMap_size k1
  · obtain ⟨v, h4, h5⟩ := h.heap x (mem_hdel.1 hx).1
    exact ⟨v, h4.at (fun i hi => same i (h4.lt i hi) (h.home x (mem_hdel.1 hx).1 i hi).2.2) k2.grown.size, h5⟩
  · have := len_hdel h.un k
    have := h.few
    omega
/-- 'm[key] = h', at a key that is not there: an empty heap at g. -/
theorem Tab.store (h : Tab w r b F tm Gs rep S) {k : Ky} (hk : KyIn k) (hn : hget S k = none) (h8 : S.length < 8) {g : Nat} {now : Int} (hnow : UW now) (hF : F g) (hnew : ∀ x ∈ S, ¬ Gs x.k g) (hgr : g ≠ r)
    (hg : w.heap[g]? = some (.cells (heapRow now Hv.zero.f (.slice none 0 0) (.slice none 0 0) 0 false) 99 (0, 0))) :
    ∃ w', (Instr.mapUpdate 90 (.map (some b)) (keyV k) (.pointer (some ⟨g, 0, none⟩))).run Tryd.prog w = .ok () w' ∧ Tab w' r b F tm (fun i => if i = k then (fun j => j = g) else Gs i) (repSet rep k g) (⟨k, now, []⟩ :: S) ∧ w.mapTurned w' b := by
  obtain ⟨D, h1, h2⟩ := h.own
  obtain ⟨w', hrun, k1, k2⟩ := h1.store fK Tryd.underlying90 (by unfold maxLen; omega) (keyOf_key hk) (ptElem_val g)
  have h3 := h2.put (h1.tidy fK) (x := ⟨k, now, []⟩) hk hn g
  have same := h.turned k2
  have hgb : g ≠ b := h.notMap hg
  have hglt : g < w.heap.size := (Array.getElem?_eq_some_iff.1 hg).1
  have hne : ∀ x ∈ S, x.k ≠ k := hget_none.1 hn
  refine ⟨w', hrun, ⟨?_, ?_, ⟨_, ?_, h3⟩, fun x hx => ?_, fun x hx y hy hxy i => ?_, fun x hx i hi => ?_, fun x hx => ?_, ?_, by rw [List.length_cons]; omega, h.tmw, h.fr, h.fb, fun q hF => Nat.lt_of_lt_of_le (h.flt q hF) k2.grown.size⟩, k2⟩
  · rw [← h.c0]; exact World.cell?_of_block (same r h.lt.1 h.rb)
  · rw [← h.c1]; exact World.cell?_of_block (same r h.lt.1 h.rb)
  · rw [← h3.size]
    exact ownsMap_size k1
  · rcases List.mem_cons.1 hx with rfl | hx
    · refine ⟨Hv.zero, ?_, HvOk.zero, hnow⟩
      simp only [repSet, if_true]
      exact ⟨⟨.slice none 0 0, .slice none 0 0, (same g hglt hgb).trans hg, World.ownsRow_nil _ _ _ _, fun _ e => (by cases e), World.ownsRow_nil _ _ _ _, fun _ e => (by cases e), rfl⟩, fun i hi => by rw [hi]; exact Nat.lt_of_lt_of_le hglt k2.grown.size⟩
    · obtain ⟨v, h4, h5⟩ := h.heap x hx
      simp only [repSet, hne x hx, if_false]
      exact ⟨v, h4.at (fun i hi => same i (h4.lt i hi) (h.home x hx i hi).2.2) k2.grown.size, h5⟩
  · rcases List.mem_cons.1 hx with rfl | hx <;> rcases List.mem_cons.1 hy with rfl | hy
    · exact absurd rfl hxy
    · simp only [hne y hy, if_false, if_true]
      rintro rfl
      exact hnew y hy
    · simp only [hne x hx, if_false, if_true]
      rintro hi rfl
      exact hnew x hx hi
    · simp only [hne x hx, hne y hy, if_false]
      exact h.apart x hx y hy hxy i
  · rcases List.mem_cons.1 hx with rfl | hx
    · simp only [if_true] at hi
      rw [hi]
      exact ⟨hF, hgr, hgb⟩
    · simp only [hne x hx, if_false] at hi
      exact h.home x hx i hi
  · rcases List.mem_cons.1 hx with rfl | hx
    · exact hk
    · exact h.kin x hx
  · exact List.pairwise_cons.2 ⟨fun y hy e => hne y hy e.symm, h.un⟩
/-- One heap has turned. -/
theorem Tab.turn {x : Hp} (h : Tab w r b F tm Gs rep (x :: S)) {v' : Hv} {G' : Nat → Prop} {l' : List Ip} (hD : Did w w' (Gs x.k) G') (hH : Heap w' G' (rep x.k) x.t v') (hv : HvOk v' l') :
    Tab w' r b (fun i => F i ∨ G' i) tm (fun i => if i = x.k then G' else Gs i) rep (⟨x.k, x.t, l'⟩ :: S) := by
  have hx : x ∈ x :: S := List.mem_cons_self ..
  have hne : ∀ y ∈ S, y.k ≠ x.k := fun y hy e => (List.pairwise_cons.1 h.un).1 y hy e.symm
  have hG : ∀ i, G' i → Gs x.k i ∨ w.heap.size ≤ i := hD.new
  have keep : ∀ i, i < w.heap.size → ¬ Gs x.k i → w'.heap[i]? = w.heap[i]? := hD.block
  have hr : ¬ Gs x.k r := fun e => (h.home x hx r e).2.1 rfl
  have hb : ¬ Gs x.k b := fun e => (h.home x hx b e).2.2 rfl
  have ky : ∀ k, (hget (⟨x.k, x.t, l'⟩ :: S) k).isSome = (hget (x :: S) k).isSome := fun k => by
    by_cases e : k = x.k
    · subst e
      rw [hget_cons_same S x]
      have := hget_cons_same S ⟨x.k, x.t, l'⟩
      rw [this]
      rfl
    · rw [hget_cons_other e]
      have := hget_cons_other (S := S) (h := ⟨x.k, x.t, l'⟩) e
      rw [this]
  obtain ⟨D, ⟨es, clock, hbk, Ft, h1, h2⟩, h3⟩ := h.own
  refine ⟨?_, ?_, ⟨D, ⟨es, clock, (keep b h.lt.2 hb).trans hbk, Ft, h1, h2⟩, h3.alike ky rfl⟩, fun y hy => ?_, fun y hy z hz hyz i => ?_, fun y hy i hi => ?_, fun y hy => ?_, ?_, h.few, h.tmw, .inl h.fr, .inl h.fb, fun i hi => ?_⟩
  · rw [← h.c0]; exact World.cell?_of_block (keep r h.lt.1 hr)
  · rw [← h.c1]; exact World.cell?_of_block (keep r h.lt.1 hr)
  · rcases List.mem_cons.1 hy with rfl | hy
    · obtain ⟨_, _, _, h5⟩ := h.heap x hx
      simp only [if_true]
      exact ⟨v', hH, hv, h5⟩
    · obtain ⟨v, h4, h5⟩ := h.heap y (List.mem_cons_of_mem _ hy)
      simp only [hne y hy, if_false]
      exact ⟨v, h4.at (fun i hi => keep i (h4.lt i hi) (h.apart y (List.mem_cons_of_mem _ hy) x hx (hne y hy) i hi)) hD.size, h5⟩
  · rcases List.mem_cons.1 hy with rfl | hy <;> rcases List.mem_cons.1 hz with rfl | hz
    · exact absurd rfl hyz
    · simp only [hne z hz, if_false, if_true]
      intro hi hj
      rcases hG i hi with h5 | h5
      · exact h.apart x hx z (List.mem_cons_of_mem _ hz) (fun e => hne z hz e.symm) i h5 hj
      · obtain ⟨v, h4, _⟩ := h.heap z (List.mem_cons_of_mem _ hz)
        exact absurd (h4.lt i hj) (by omega)
    · simp only [hne y hy, if_false, if_true]
      intro hj hi
      rcases hG i hi with h5 | h5
      · exact h.apart y (List.mem_cons_of_mem _ hy) x hx (hne y hy) i hj h5
      · obtain ⟨v, h4, _⟩ := h.heap y (List.mem_cons_of_mem _ hy)
        exact absurd (h4.lt i hj) (by omega)
    · simp only [hne y hy, hne z hz, if_false]
      exact h.apart y (List.mem_cons_of_mem _ hy) z (List.mem_cons_of_mem _ hz) hyz i
  · rcases List.mem_cons.1 hy with rfl | hy
    · simp only [if_true] at hi
      refine ⟨.inr hi, ?_⟩
      rcases hG i hi with h5 | h5
      · exact (h.home x hx i h5).2
      · have := h.lt
        exact ⟨by omega, by omega⟩
    · simp only [hne y hy, if_false] at hi
      have := h.home y (List.mem_cons_of_mem _ hy) i hi
      exact ⟨.inl this.1, this.2⟩
  · rcases List.mem_cons.1 hy with rfl | hy
    · exact h.kin x hx
    · exact h.kin y (List.mem_cons_of_mem _ hy)
  · obtain ⟨u1, u2⟩ := List.pairwise_cons.1 h.un
    exact List.pairwise_cons.2 ⟨u1, u2⟩
  · rcases hi with hi | hi
    · exact Nat.lt_of_lt_of_le (h.flt i hi) hD.size
    · exact hH.lt i hi
/-- What is of no heap any more is given away. -/
theorem Tab.less (h : Tab w r b F tm Gs rep S) {G : Nat → Prop} (hG : ∀ x ∈ S, ∀ i, Gs x.k i → ¬ G i) (hr : ¬ G r) (hb : ¬ G b) : Tab w r b (fun i => F i ∧ ¬ G i) tm Gs rep S :=
  ⟨h.c0, h.c1, h.own, h.heap, h.apart, fun x hx i hi => ⟨⟨(h.home x hx i hi).1, hG x hx i hi⟩, (h.home x hx i hi).2⟩, h.kin, h.un, h.few, h.tmw, ⟨h.fr, hr⟩, ⟨h.fb, hb⟩, fun k hk => h.flt k hk.1⟩
end

def PartAt (p : Ip) (w : World) (e : Ending) (w' : World) : Prop := ∃ d : Bool, e = .returned (.bool d) ∧ (d = true ↔ ¬ Alone p) ∧ Below w.heap.size w w'
set_option maxRecDepth 100000 in
set_option maxHeartbeats 1000000 in
theorem isPart_any (p : Ip) (bv : Value) (w : World) : Calls Tryd.prog 42 #[p.val bv] w (PartAt p w) := by
  obtain ⟨c0, c1, c2, c3, c4, c5, c6, c7, c8, c9⟩ := (IpAt.new w p bv).cells
  have HB := Lib.hid (below_al (Below.refl _ w) (p.obj bv))
  unfold Ip.obj at HB c0 c1 c2 c3 c4 c5 c6 c7 c8 c9
  rw [Ip.val_lit]
  obtain ⟨mf, hmf⟩ : ∃ mf, p.mf = mf := ⟨_, rfl⟩
  by_cases h0 : p.off = 0
  · have q0 : (p.off != 0) = false := by simp [h0]
    have hdm : mf = true ↔ ¬ Alone p := by
      rw [← hmf]
      unfold Alone
      cases p.mf <;> simp [h0]
    have HD := Lib.hid hdm
    rw [hmf] at HB c0 c1 c2 c3 c4 c5 c6 c7 c8 c9 ⊢
    clear hdm h0 hmf c0 c1 c2 c5 c6 c7 c8 c9
    go_enter Tryd.func42, Tryd.ntmps42
    go_wp2_with fail
    go_ret
    exact ⟨_, rfl, HD.out, HB.out⟩
  · have q0 : (p.off != 0) = true := by simp [h0]
    have hdm : true = true ↔ ¬ Alone p := by
      unfold Alone
      simp [h0]
    have HD := Lib.hid hdm
    clear hdm h0 hmf c0 c1 c2 c5 c6 c7 c8 c9
    go_enter Tryd.func42, Tryd.ntmps42
    go_wp2_with fail
    go_ret
    exact ⟨_, rfl, by simpa using HD.out, HB.out⟩
theorem keySize : (Tryd.prog.info? 95).map (·.size) = some 4 := by kernel_rfl
set_option maxRecDepth 100000 in
set_option maxHeartbeats 1000000 in
theorem keyOf_any (p : Ip) (A : Option Addr) (n c : Nat) (w : World) : Calls Tryd.prog 43 #[p.val (.slice A n c)] w fun e w' => e = .returned (keyV p.key4) ∧ Below w.heap.size w w' := by
  have HP := Lib.hid (IpAt.new w p (.slice A n c))
  have HB := Lib.hid (below_al (below_al (Below.refl _ w) (p.obj (.slice A n c))) (.cells #[.int .u32 0, .int .u32 0, .int .u8 0, .int .u16 0] 95))
  unfold Ip.obj at HB HP
  rw [Ip.val_lit]
  unfold keyV Ip.key4
  go_enter Tryd.func43, Tryd.ntmps43
  go_upto_region 1 with fail
  obtain ⟨W1, hW1⟩ : ∃ W1, (w.alloc (.cells #[.int .u8 p.tos, .int .u16 p.id, .bool p.df, .bool p.mf, .int .i64 p.off, .int .u8 p.ttl, .int .u8 p.proto, .int .u32 p.src, .int .u32 p.dst, .slice A n c] 42)).alloc (.cells #[.int .u32 0, .int .u32 0, .int .u8 0, .int .u16 0] 95) = W1 := ⟨_, rfl⟩
  have HZ : Hid (W1.heap[w.heap.size + 1]? = some (.cells #[.int .u32 0, .int .u32 0, .int .u8 0, .int .u16 0] 95 (0, 0))) := Lib.hid (by
    rw [← hW1]
    have := heap_alloc_new (w.alloc (p.obj (.slice A n c))) (.cells #[.int .u32 0, .int .u32 0, .int .u8 0, .int .u16 0] 95)
    rw [World.size_alloc] at this
    exact this)
  have HP1 : Hid (IpAt W1 w.heap.size p (.slice A n c)) := Lib.hid (by
    rw [← hW1]
    exact (heap_alloc_old _ _ (by simp)).trans HP.out)
  rw [hW1] at HB ⊢
  clear hW1 HP
  obtain ⟨B0, hB0⟩ : ∃ B0, w.heap.size = B0 := ⟨_, rfl⟩
  have HBe := Lib.hid hB0
  rw [hB0] at HP1 HZ ⊢
  clear hB0
  obtain ⟨c0, c1, c2, c3, c4, c5, c6, c7, c8, c9⟩ := HP1.out.cells
  go_wp2_with (refine wpList_store_row rfl 95 (.tmp 2) (.tmp 11) rfl (B0 + 1) #[.int .u32 p.src, .int .u32 p.dst, .int .u8 p.proto, .int .u16 p.id] rfl rfl 95 _ HZ.out keySize rfl (by simp [Value.oneCell']) ?_)
  (try simp only [Exit.inBlock, Exit.then])
  refine bodyPost_ret (results_cell_row rfl _ _ (B0 + 1) _ #[.int .u32 p.src, .int .u32 p.dst, .int .u8 p.proto, .int .u16 p.id] (0, 0) _ rfl (setRow_heap _ _ _ _ _ _ HZ.out) Tryd.underlying95 rfl keySize) rfl ?_
  have hb := HB.out
  exact ⟨rfl, hb.os, hb.tape, hb.output, by rw [← HBe.out, Go.size_setRow]; exact hb.size, fun k hk => (Go.setRow_other _ _ _ _ (by have := HBe.out; omega)).trans (hb.block k (by have := HBe.out; omega))⟩
end Go.Proofs.YtdmogppkambgaaaDoor
namespace Go.Proofs.YtdmogppkambgaaaDoor
open Go.RowKit Go.Shelf

def clone_ren : Go.Shelf.Ren := ⟨fun | 4 => 57 | n => n, fun | 4 => 4 | 22 => 23 | 5 => 5 | n => n, fun n => n⟩
theorem clone_lay : SlLaysK.n4 Tryd.prog clone_ren := {
  mixed := by kernel_rfl,
  f4 := Tryd.func57.trans (congrArg some (by kernel_rfl)),
  t4 := Tryd.underlying4, a4 := Tryd.isAgg4, z4 := Tryd.sizeOf4, v4 := Tryd.zeroValue4,
  t22 := Tryd.underlying23, a22 := Tryd.isAgg23, z22 := Tryd.sizeOf23, v22 := Tryd.zeroValue23,
  t5 := Tryd.underlying5, i5 := by kernel_rfl }
def CloneAt (x : List UInt8) (w : World) (e : Ending) (w' : World) : Prop :=
  ∃ v, e = .returned v ∧ w'.ownsRow w.heap.size 5 1 v x.length (x.map B8) ∧ Below w.heap.size w w'
theorem bclone_any (u : Value) (x : List UInt8) (w : World) (h : Rd w u x) (hbig : x.length ≤ 140737488355328) : Calls Tryd.prog 57 #[u] w (CloneAt x w) := by
  obtain ⟨A, c, rfl, hc, hcell⟩ := h
  cases A with
  | none =>
    have hx : x = [] := by
      rcases Nat.eq_zero_or_pos x.length with h0 | h0
      · exact List.eq_nil_of_length_eq_zero h0
      · obtain ⟨g, o, e, _⟩ := hcell h0
        cases e
    subst hx
    refine (Any.bytes_Clone_nil clone_lay _ _ w).mono ?_
    rintro e w' ⟨rfl, rfl⟩
    exact ⟨_, rfl, World.ownsRow_nil _ _ _ _, Below.refl _ _⟩
  | some a =>
    have e2 : (x.map fun b => (b.toNat : Int)).map (Value.int .u8) = x.map B8 := by
      rw [List.map_map]
      rfl
    refine (Any.bytes_Clone_at clone_lay a x.length c (x.map fun b => (b.toNat : Int)) w (by simp) hbig (fun i hi => ?_)).mono ?_
    · obtain ⟨g, o, e, hr⟩ := hcell (by omega)
      cases e
      rw [Addr.add_lit]
      have := hr i x[i] (List.getElem?_eq_getElem hi)
      rw [this]
      simp [B8, List.getD, hi]
    · rintro e w' ⟨v, rfl, h1, _, h2⟩
      rw [e2] at h1
      exact ⟨v, rfl, h1, h2⟩
theorem own_rd {w : World} {B : Nat} {v : Value} {x : List UInt8} (h : w.ownsRow B 5 1 v x.length (x.map B8)) : Rd w v x := by
  obtain ⟨A, c, rfl, h1, _, h3⟩ := own_shape h
  refine ⟨A, c, rfl, h1, fun h0 => ?_⟩
  obtain ⟨g, rfl, _, _⟩ := h3 0 (B8 (x[0]'h0)) (by rw [List.getElem?_map, List.getElem?_eq_getElem h0]; rfl)
  refine ⟨g, 0, rfl, fun i u hu => ?_⟩
  obtain ⟨g', e, _, hc⟩ := h3 i (B8 u) (by rw [List.getElem?_map, hu]; rfl)
  cases e
  rw [Nat.zero_add]
  exact hc
/-- A packet whose bytes are a row of one's own. -/
def PackAt (p : Ip) (w : World) (e : Ending) (w' : World) : Prop := ∃ v, e = .returned (p.val v) ∧ w'.ownsRow w.heap.size 5 1 v p.b.length (p.b.map B8) ∧ Below w.heap.size w w'
theorem own_setCell {w : World} {B : Nat} {e : TypeId} {s : Nat} {v : Value} {k : Nat} {xs : List Value} (h : w.ownsRow B e s v k xs) {q : Nat} {c : Array Value} {e' : TypeId} {fr : Nat × Nat} (hq : w.heap[q]? = some (.cells c e' fr)) (hne : e ≠ e') (i : Nat) (u : Value) : (w.setCell ⟨q, i, none⟩ u).ownsRow B e s v k xs :=
  owns_at h (fun _ hg => heap_setCell_other _ _ _ _ (fun e2 => own_ne h hq hne (hg.trans (congrArg some e2))))
theorem ipTy_ne : (5 : TypeId) ≠ 42 := by decide
set_option maxRecDepth 100000 in
set_option maxHeartbeats 2000000 in
theorem fclone_any (p : Ip) (A : Option Addr) (c : Nat) (w : World) (hr : Rd w (.slice A p.b.length c) p.b) (hbig : p.b.length ≤ 1099511627776) : Calls Tryd.prog 39 #[p.val (.slice A p.b.length c)] w (PackAt p w) := by
  have hcap := hr.cap_le
  have HP := Lib.hid (IpAt.new w p (.slice A p.b.length c))
  have HB := Lib.hid (below_al (below_al (Below.refl _ w) (p.obj (.slice A p.b.length c))) noIpObj)
  have X := Lib.hid (fun W (hW : Below w.heap.size w W) => bclone_any (.slice A p.b.length c) p.b W (hr.below hW) (by omega))
  unfold Ip.obj noIpObj at HB
  unfold Ip.obj at HP
  rw [Ip.val_lit]
  go_enter Tryd.func39, Tryd.ntmps39
  go_upto_region 1 with fail
  obtain ⟨W1, hW1⟩ : ∃ W1, (w.alloc (.cells #[.int .u8 p.tos, .int .u16 p.id, .bool p.df, .bool p.mf, .int .i64 p.off, .int .u8 p.ttl, .int .u8 p.proto, .int .u32 p.src, .int .u32 p.dst, .slice A p.b.length c] 42)).alloc (.cells #[.int .u8 0, .int .u16 0, .bool false, .bool false, .int .i64 0, .int .u8 0, .int .u8 0, .int .u32 0, .int .u32 0, .slice none 0 0] 42) = W1 := ⟨_, rfl⟩
  have HZ : Hid (W1.heap[w.heap.size + 1]? = some noIpObj) := Lib.hid (by
    rw [← hW1]
    have := heap_alloc_new (w.alloc (p.obj (.slice A p.b.length c))) noIpObj
    rw [World.size_alloc] at this
    exact this)
  have HP1 : Hid (IpAt W1 w.heap.size p (.slice A p.b.length c)) := Lib.hid (by
    rw [← hW1]
    exact (heap_alloc_old _ _ (by simp)).trans HP.out)
  rw [hW1] at HB ⊢
  clear hW1 HP
  have XC := Lib.hid (X.out W1 HB.out)
  obtain ⟨B0, hB0⟩ : ∃ B0, w.heap.size = B0 := ⟨_, rfl⟩
  have HBe := Lib.hid hB0
  rw [hB0] at HP1 HZ ⊢
  clear hB0 X hr
  obtain ⟨c0, c1, c2, c3, c4, c5, c6, c7, c8, c9⟩ := HP1.out.cells
  obtain ⟨L, hL⟩ : ∃ L, p.b.length = L := ⟨_, rfl⟩
  have HL := Lib.hid hL
  rw [hL] at c9 XC ⊢
  clear c0 c1 c2 c3 c4 c5 c6 c7 c8 hL
  go_upto_region 2 with (go_at_call 57; (with_reducible refine XC.out.mono ?_); rintro e w2 ⟨v, rfl, ho, hb⟩; (obtain ⟨A9, k9, rfl, _⟩ := own_shape ho); (have d9 := ((HP1.out.below hb).cells.2.2.2.2.2.2.2.2.2)); (have f9 := (HP1.out.below hb).free 9); (have HO := Lib.hid ho); (have HB2 := Lib.hid hb); clear ho hb)
  have HP2 := Lib.hid (set9_10 (HP1.out.below HB2.out) (.slice A9 p.b.length k9))
  have HZ2 : Hid ((w2.setCell ⟨B0, 9, none⟩ (.slice A9 p.b.length k9)).heap[B0 + 1]? = some noIpObj) := Lib.hid ((heap_setCell_other w2 ⟨B0, 9, none⟩ _ _ (show B0 + 1 ≠ B0 by omega)).trans (be_block HB2.out HZ.out))
  have HO2 := Lib.hid (own_setCell HO.out (HP1.out.below HB2.out) ipTy_ne 9 (.slice A9 p.b.length k9))
  have HB3 := Lib.hid ((below_to HB.out HB2.out HB.out.size).setCell (p := ⟨B0, 9, none⟩) (by have := HBe.out; show _ ≤ B0; omega) (.slice A9 p.b.length k9))
  have HN := Lib.hid (And.intro HB.out.size (show B0 + 1 < W1.heap.size from (Array.getElem?_eq_some_iff.1 HZ.out).1))
  generalize w2.setCell ⟨B0, 9, none⟩ (.slice A9 p.b.length k9) = w3 at *
  obtain ⟨e0, e1, e2, e3, e4, e5, e6, e7, e8, e9⟩ := cells10 HP2.out
  clear d9 f9 c9 HO HB2 HB HP1 HZ
  go_wp2_with (refine wpList_store_row rfl 42 (.tmp 2) (.tmp 7) rfl (B0 + 1) (p.row (.slice A9 p.b.length k9)) rfl rfl 42 _ HZ2.out ipSize rfl (ipRow_one _ _ _ _) ?_)
  (try simp only [Exit.inBlock, Exit.then])
  refine bodyPost_ret (results_cell_row rfl _ _ (B0 + 1) _ (p.row (.slice A9 p.b.length k9)) (0, 0) _ rfl (setRow_heap _ _ _ _ _ _ HZ2.out) Tryd.underlying42 rfl ipSize) rfl ?_
  have hb := HB3.out
  refine ⟨_, rfl, ?_, hb.os, hb.tape, hb.output, by rw [Go.size_setRow]; exact hb.size, fun k hk => (Go.setRow_other _ _ _ _ (by have := HBe.out; omega)).trans (hb.block k hk)⟩
  have ho := owns_at (w' := w3.setRow (B0 + 1) (p.row (.slice A9 p.b.length k9))) HO2.out (fun g hg => Go.setRow_other _ _ _ _ (fun e => by have h1 := (HO2.out.lt g hg).1; have h2 := HN.out.2; omega))
  refine ⟨ho.1, ?_⟩
  rcases ho.2 with h1 | ⟨g, cap, cur, hv, h2, r⟩
  · exact .inl h1
  · exact .inr ⟨g, cap, cur, hv, by have := HN.out.1; omega, r⟩
end Go.Proofs.YtdmogppkambgaaaDoor
namespace Go.Proofs.YtdmogppkambgaaaDoor
open Go.RowKit

theorem results_cell_two_row {P : Program} {fn : Func} {p u v : Tmp} {ty : TypeId} (h : fn.results = #[.cell p ty, .tmp u, .tmp v]) (tmps : Array Value) (w : World) (g : Nat) (t : TypeId) (cs : Array Value) (fr : Nat × Nat) (d : TypeDesc)
    (hp : tmps.getD p undef = .pointer (some ⟨g, 0, none⟩)) (hg : w.heap[g]? = some (.cells cs t fr))
    (hu : P.underlying ty = some d) (hd : (match d with | .struct _ | .array _ _ => true | _ => false) = true) (hi : (P.info? ty).map (·.size) = some cs.size) :
    (results fn tmps).run P w = .ok (.tuple #[.agg cs, tmps.getD u undef, tmps.getD v undef]) w := by
  have e : (results fn tmps).run P w = ((asAddr (tmps.getD p undef)).run P w).andThen fun a w₁ => ((loadVar ty a).run P w₁).andThen fun x w₂ => .ok (.tuple #[x, tmps.getD u undef, tmps.getD v undef]) w₂ := by
    simp only [results, h]
    simp [Sem.run_bind, Result.andThen]
  rw [e, hp]
  simp [asAddr, run_loadVar_row w g t ty cs fr d hg hu hd hi]
def TakeAt (S : List Hp) (p : Ip) (now tm : Int) (r : Nat) (F : Nat → Prop) (A : Option Addr) (w : World) (e : Ending) (w' : World) : Prop :=
  ∃ S' o n b F', TakeR S p now S' o n b ∧ TakeVal o n b e w' ∧ Ra w' r F' tm S' ∧ Did w w' F F' ∧ Apart e A w w' F F'
/-- The frame of Take: the part in its box, the result's box. -/
structure Bx (W : World) (B0 : Nat) (p : Ip) (bv : Value) (F : Nat → Prop) : Prop where
  box : IpAt W B0 p bv
  z : W.heap[B0 + 1]? = some noIpObj
  n0 : ¬ F B0
  n1 : ¬ F (B0 + 1)
section
variable {W W' : World} {B0 : Nat} {p : Ip} {bv : Value} {F F' : Nat → Prop}
theorem Bx.did (h : Bx W B0 p bv F) (hD : Did W W' F F') : Bx W' B0 p bv F' := by
  have l1 := h.box.lt
  have l2 := (Array.getElem?_eq_some_iff.1 h.z).1
  exact ⟨(hD.block _ l1 h.n0).trans h.box, (hD.block _ l2 h.n1).trans h.z, fun e => (hD.new _ e).elim h.n0 (by omega), fun e => (hD.new _ e).elim h.n1 (by omega)⟩
theorem Bx.below (h : Bx W B0 p bv F) (hb : Below W.heap.size W W') : Bx W' B0 p bv F := h.did (Did.of_below hb)
end
/-- The key in its box. -/
structure Kx (W : World) (K0 : Nat) (k : Ky) (F : Nat → Prop) : Prop where
  row : W.heap[K0]? = some (.cells #[.int .u32 k.1, .int .u32 k.2.1, .int .u8 k.2.2.1, .int .u16 k.2.2.2] 95 (0, 0))
  n : ¬ F K0
theorem Kx.did {W W' : World} {K0 : Nat} {k : Ky} {F F' : Nat → Prop} (h : Kx W K0 k F) (hD : Did W W' F F') : Kx W' K0 k F' := by
  have l := (Array.getElem?_eq_some_iff.1 h.row).1
  exact ⟨(hD.block _ l h.n).trans h.row, fun e => (hD.new _ e).elim h.n (by omega)⟩
theorem Kx.below {W W' : World} {K0 : Nat} {k : Ky} {F : Nat → Prop} (h : Kx W K0 k F) (hb : Below W.heap.size W W') : Kx W' K0 k F := h.did (Did.of_below hb)
theorem Kx.cells {W : World} {K0 : Nat} {k : Ky} {F : Nat → Prop} (h : Kx W K0 k F) : W.cell? ⟨K0, 0, none⟩ = some (.int .u32 k.1) ∧ W.cell? ⟨K0, 1, none⟩ = some (.int .u32 k.2.1) ∧ W.cell? ⟨K0, 2, none⟩ = some (.int .u8 k.2.2.1) ∧ W.cell? ⟨K0, 3, none⟩ = some (.int .u16 k.2.2.2) := by
  refine ⟨?_, ?_, ?_, ?_⟩ <;> (rw [cell_of_row W K0 _ _ _ _ h.row]; rfl)
theorem noIp_row : noIpObj = .cells #[.int .u8 0, .int .u16 0, .bool false, .bool false, .int .i64 0, .int .u8 0, .int .u8 0, .int .u32 0, .int .u32 0, .slice none 0 0] 42 := rfl
theorem zero_same {W : World} {k : Nat} (h : W.heap[k]? = some noIpObj) (i : Nat) : (W.setRow k #[.int .u8 0, .int .u16 0, .bool false, .bool false, .int .i64 0, .int .u8 0, .int .u8 0, .int .u32 0, .int .u32 0, .slice none 0 0]).heap[i]? = W.heap[i]? := by
  by_cases e : i = k
  · subst e
    rw [setRow_heap _ _ _ _ _ _ h, h]
    rfl
  · exact Go.setRow_other _ _ _ _ e
theorem ErrIs.keep {w w' : World} {n : Nat} {b : Bool} {ev : Value} (h : ErrIs w n b ev) (hk : ∀ a v, w.cell? a = some v → w'.cell? a = some v) : ErrIs w' n b ev := by
  rcases h with h | ⟨h0, x, h1, h2⟩
  · exact .inl h
  · exact .inr ⟨h0, x, h1, h2.keep hk⟩
theorem Ra.at {w w' : World} {r : Nat} {F : Nat → Prop} {tm : Int} {S : List Hp} (h : Ra w r F tm S) (hk : ∀ k, F k → w'.heap[k]? = w.heap[k]?) (hs : w.heap.size ≤ w'.heap.size) : Ra w' r F tm S := by
  obtain ⟨b, Gs, rep, h⟩ := h
  exact ⟨b, Gs, rep, h.at hk hs⟩
/-- Nothing is told but an error. -/
theorem ftake_err {S S' : List Hp} {p : Ip} {now tm : Int} {r : Nat} {F F' : Nat → Prop} {A : Option Addr} {w W : World} {n : Nat} {b : Bool} {ev bv : Value} {B0 : Nat} (hX : Bx W B0 p bv F') (hT : TakeR S p now S' none n b) (hE : ErrIs W n b ev) (hR : Ra W r F' tm S') (hD : Did w W F F') :
    TakeAt S p now tm r F A w (.returned (.tuple #[.agg #[.int .u8 0, .int .u16 0, .bool false, .bool false, .int .i64 0, .int .u8 0, .int .u8 0, .int .u32 0, .int .u32 0, .slice none 0 0], .bool false, ev]))
      (W.setRow (B0 + 1) #[.int .u8 0, .int .u16 0, .bool false, .bool false, .int .i64 0, .int .u8 0, .int .u8 0, .int .u32 0, .int .u32 0, .slice none 0 0]) := by
  have hz := zero_same hX.z
  refine ⟨S', none, n, b, F', hT, ⟨none, 0, ev, rfl, Rd.nil _, hE.keep (fun a v ha => by rw [World.cell?_of_block (hz a.block)]; exact ha)⟩, hR.at (fun k _ => hz k) (by rw [Go.size_setRow]; exact Nat.le_refl _), ?_, fun row ok ev' x n c he hx => ?_⟩
  · exact ⟨hD.os, hD.tape, hD.output, by rw [Go.size_setRow]; exact hD.size, fun k hk hn => (hz k).trans (hD.block k hk hn), hD.new⟩
  · simp only [Ending.returned.injEq, Value.tuple.injEq, Array.mk.injEq, List.cons.injEq, Value.agg.injEq] at he
    obtain ⟨rfl, _⟩ := he
    simp at hx
/-- A packet is told. -/
theorem ftake_ok {S S' : List Hp} {p q : Ip} {now tm : Int} {r : Nat} {F F' : Nat → Prop} {A : Option Addr} {w W : World} {bv v : Value} {B0 B : Nat} (hB : w.heap.size = B0) (hX : Bx W B0 p bv F') (hT : TakeR S p now S' (some q) 0 false) (hv : W.ownsRow B 5 1 v q.b.length (q.b.map B8)) (hR : Ra W r F' tm S') (hD : Did w W F F')
    (hA : ∀ k, v.ownBlock = some k → (F k ∨ w.heap.size ≤ k) ∧ ¬ F' k) :
    TakeAt S p now tm r F A w (.returned (.tuple #[.agg (q.row v), .bool true, .nilIface])) (W.setRow (B0 + 1) (q.row v)) := by
  have ho : ∀ k, k ≠ B0 + 1 → (W.setRow (B0 + 1) (q.row v)).heap[k]? = W.heap[k]? := fun k hk => Go.setRow_other _ _ _ _ hk
  have hv2 : (W.setRow (B0 + 1) (q.row v)).ownsRow B 5 1 v q.b.length (q.b.map B8) := owns_at hv (fun g hg => ho g (fun e => own_ne hv hX.z ipTy_ne (hg.trans (congrArg some e))))
  obtain ⟨A', c', e, h1, h2, h3⟩ := own_shape hv
  refine ⟨S', some q, 0, false, F', hT, ⟨A', c', .nilIface, by rw [e]; rfl, by show Rd _ (.slice A' q.b.length c') q.b; rw [← e]; exact own_rd hv2, .inl ⟨rfl, rfl⟩⟩, hR.at (fun k hk => ho k (fun e => hX.n1 (e ▸ hk))) (by rw [Go.size_setRow]; exact Nat.le_refl _), ?_, fun row ok ev' x n c he hx => ?_⟩
  · exact ⟨hD.os, hD.tape, hD.output, by rw [Go.size_setRow]; exact hD.size, fun k hk hn => (ho k (by omega)).trans (hD.block k hk hn), hD.new⟩
  · simp only [Ending.returned.injEq, Value.tuple.injEq, Array.mk.injEq, List.cons.injEq, Value.agg.injEq] at he
    obtain ⟨rfl, _⟩ := he
    have hx2 : v = .slice (some x) n c := by simpa [Ip.row] using hx
    have hb : v.ownBlock = some x.block := by rw [hx2]; rfl
    obtain ⟨h4, h5⟩ := hA _ hb
    exact .inr ⟨h4, by rw [Go.size_setRow]; exact own_lt hv hb, h5⟩

theorem hget_cons_perm {S : List Hp} (hU : Un S) {h : Hp} (hm : h ∈ S) : (h :: hdel S h.k).Perm S := by
  induction S with
  | nil => cases hm
  | cons x l ih =>
    obtain ⟨h1, h2⟩ := List.pairwise_cons.1 hU
    by_cases e : x.k = h.k
    · have hx : h = x := un_one hU hm (List.mem_cons_self ..) e.symm
      subst hx
      have hd : hdel (h :: l) h.k = l := by
        have h3 : hdel (h :: l) h.k = hdel l h.k := by simp [hdel]
        rw [h3, hdel_none (hget_none.2 fun z hz => (h1 z hz).symm)]
      rw [hd]
    · have hd : hdel (x :: l) h.k = x :: hdel l h.k := by simp [hdel, e]
      have hml : h ∈ l := (List.mem_cons.1 hm).resolve_left (fun e2 => e (by rw [e2]))
      rw [hd]
      exact (List.Perm.swap x h _).trans ((ih h2 hml).cons x)
theorem hget_split {S : List Hp} (hU : Un S) {k : Ky} {h : Hp} (e : hget S k = some h) : (⟨k, since S k 0, held S k⟩ :: hdel S k : List Hp).Perm S := by
  obtain ⟨h1, h2⟩ := hget_some e
  have hs : since S k 0 = h.t := by unfold since; rw [e]
  have hl : held S k = h.l := by unfold held; rw [e]
  have hh : (⟨k, since S k 0, held S k⟩ : Hp) = h := by rw [hs, hl, ← h2]
  rw [hh, ← h2]
  exact hget_cons_perm hU h1
theorem since_some {S : List Hp} {k : Ky} {h : Hp} (e : hget S k = some h) (n m : Int) : since S k n = since S k m := by unfold since; rw [e]
theorem turned_cellH {w w' : World} {b : Nat} (h : w.mapTurned w' b) {a : Addr} {v : Value} (hc : w.cell? a = some v) : w'.cell? a = some v := by
  have hlt := World.block_lt_of_cell? w _ hc
  have hne : a.block ≠ b := fun e => by
    obtain ⟨es, clock, es', clock', hb, _⟩ := h
    rw [← e] at hb
    unfold World.cell? at hc
    rw [hb] at hc
    cases hc
  rw [← hc]
  unfold World.cell?
  rw [h.grown.block a.block hlt (fun e => hne (Option.some.inj e))]
theorem hdel_cons {S : List Hp} {x : Hp} : hdel (x :: hdel S x.k) x.k = hdel S x.k := by
  unfold hdel
  rw [List.filter_cons]
  simp [List.filter_filter]
theorem HeapAt.cutoff {w : World} {G : Nat → Prop} {g : Nat} {t : Int} {v : Hv} {bv tv : Value} (h : HeapAt w G g t v bv tv) : HeapAt w (fun i => G i ∧ i < w.heap.size) g t v bv tv :=
  ⟨h.row, h.b, fun k e => ⟨h.bown k e, own_lt h.b e⟩, h.t, fun k e => ⟨h.town k e, own_lt h.t e⟩, h.g, (Array.getElem?_eq_some_iff.1 h.row).1⟩
theorem Bx.less {W : World} {B0 : Nat} {p : Ip} {bv : Value} {F F' : Nat → Prop} (h : Bx W B0 p bv F) (hF : ∀ i, F' i → F i) : Bx W B0 p bv F' := ⟨h.box, h.z, fun e => h.n0 (hF _ e), fun e => h.n1 (hF _ e)⟩
theorem fragWord_lit : fragWord = { data := #[102, 114, 97, 103] } := rfl
/-- An errno of the layer's own, wrapped. -/
theorem fwrap_any (n : Nat) (h0 : n ≠ 0) (z : Int) (hz : z = (n : Int)) (W : World) : Calls Tryd.prog 24 #[.string { data := #[102, 114, 97, 103] }, .iface 30 (.int .i64 z)] W fun e w' => ∃ q, e = .returned (.iface 106 (.pointer (some ⟨q, 0, none⟩))) ∧ ErrIs w' n false (.iface 106 (.pointer (some ⟨q, 0, none⟩))) ∧ Below W.heap.size W w' := by
  subst hz
  refine (wrap_any _ _ _ _).mono ?_
  rintro e w' ⟨rfl, rfl⟩
  exact ⟨_, rfl, .inr ⟨h0, _, rfl, chain_one W fragWord n⟩, below_al (Below.refl _ _) _⟩
/-- What another layer told, wrapped. -/
theorem fwrapped_any {n : Nat} (h0 : n ≠ 0) {q : Nat} {W : World} (hc : Chain W n [ipWord] (.iface 106 (.pointer (some ⟨q, 0, none⟩)))) : Calls Tryd.prog 24 #[.string { data := #[102, 114, 97, 103] }, .iface 106 (.pointer (some ⟨q, 0, none⟩))] W fun e w' => ∃ q, e = .returned (.iface 106 (.pointer (some ⟨q, 0, none⟩))) ∧ ErrIs w' n true (.iface 106 (.pointer (some ⟨q, 0, none⟩))) ∧ Below W.heap.size W w' := by
  refine (wrap_any _ _ _ _).mono ?_
  rintro e w' ⟨rfl, rfl⟩
  exact ⟨_, rfl, .inr ⟨h0, _, rfl, chain_wrapped fragWord hc⟩, below_al (Below.refl _ _) _⟩
set_option maxRecDepth 100000 in
set_option maxHeartbeats 4000000 in
theorem ftake_any (S : List Hp) (p : Ip) (now tm : Int) (r : Nat) (F : Nat → Prop) (A : Option Addr) (c : Nat) (w : World) (hRa : Ra w r F tm S) (hp : p.In) (hf : p.b.length ≤ 2000) (hnow : UW now) (hc : c ≤ 9223372036854775807)
    (hr : Rd w (.slice A p.b.length c) p.b) (hA : p.b ≠ [] → ∀ a, A = some a → ¬ F a.block) :
    Calls Tryd.prog 21 #[.pointer (some ⟨r, 0, none⟩), p.val (.slice A p.b.length c), .int .u64 now] w (TakeAt S p now tm r F A w) := by
  obtain ⟨b, Gs, rep, hT⟩ := hRa
  have HT := Lib.hid hT
  have HB := Lib.hid (below_al (below_al (Below.refl _ w) (p.obj (.slice A p.b.length c))) noIpObj)
  have X1 := Lib.hid (fun W => right_any p A c W (by omega))
  have X2 := Lib.hid (fun W => isPart_any p (.slice A p.b.length c) W)
  have X3 := Lib.hid (fun W => keyOf_any p A p.b.length c W)
  have X4 := Lib.hid (fun W (hW : Below w.heap.size w W) => fclone_any p A c W (hr.below hW) (by omega))
  have HX : Hid (Bx ((w.alloc (p.obj (.slice A p.b.length c))).alloc noIpObj) w.heap.size p (.slice A p.b.length c) F) := Lib.hid ⟨(heap_alloc_old _ _ (by simp)).trans (IpAt.new w p _), by
      have := heap_alloc_new (w.alloc (p.obj (.slice A p.b.length c))) noIpObj
      rw [World.size_alloc] at this
      exact this, fun e => absurd (hT.flt _ e) (by omega), fun e => absurd (hT.flt _ e) (by omega)⟩
  have HIn := Lib.hid hp
  have Hf := Lib.hid hf
  have Hr := Lib.hid hr
  have HA := Lib.hid hA
  have Hnow := Lib.hid hnow
  unfold Ip.obj noIpObj at HB HX
  unfold Ip.val Ip.row at X1 X2 X3 X4
  rw [Ip.val_lit]
  clear hp hf hr hA hnow hT
  go_enter Tryd.func21, Tryd.ntmps21
  go_upto_region 1 with fail
  generalize (w.alloc (.cells #[.int .u8 p.tos, .int .u16 p.id, .bool p.df, .bool p.mf, .int .i64 p.off, .int .u8 p.ttl, .int .u8 p.proto, .int .u32 p.src, .int .u32 p.dst, .slice A p.b.length c] 42)).alloc (.cells #[.int .u8 0, .int .u16 0, .bool false, .bool false, .int .i64 0, .int .u8 0, .int .u8 0, .int .u32 0, .int .u32 0, .slice none 0 0] 42) = W1 at HB HX ⊢
  obtain ⟨B0, hB0⟩ : ∃ B0, w.heap.size = B0 := ⟨_, rfl⟩
  have HBe := Lib.hid hB0
  rw [hB0] at HX ⊢
  clear hB0
  obtain ⟨c0, c1, c2, c3, c4, c5, c6, c7, c8, c9⟩ := HX.out.box.cells
  go_upto_region 2 with (go_at_call 38; (with_reducible refine (X1.out _).mono ?_); rintro e w2 ⟨hb2, hRt⟩; rcases hRt with ⟨hbad, rfl⟩ | ⟨hbad, q, rfl, hch⟩)
  · have HBb := Lib.hid hbad
    have HB2 := Lib.hid (below_to HB.out hb2 HB.out.size)
    have HX2 := Lib.hid (HX.out.below hb2)
    clear hbad hb2 X1 HX HB c0 c1 c2 c3 c4 c5 c6 c7 c8 c9
    obtain ⟨c0, c1, c2, c3, c4, c5, c6, c7, c8, c9⟩ := HX2.out.box.cells
    go_upto_region 4 with fail
    go_upto_if 21 with (go_at_call 42; (with_reducible refine (X2.out _).mono ?_); rintro e w3 ⟨d, rfl, hd, hb3⟩; (have HD := Lib.hid hd); (have HB3 := Lib.hid (below_to HB2.out hb3 HB2.out.size)); (have HX3 := Lib.hid (HX2.out.below hb3)); clear hd hb3)
    clear X2 c0 c1 c2 c3 c4 c5 c6 c7 c8 c9 HX2 HB2
    obtain ⟨c0, c1, c2, c3, c4, c5, c6, c7, c8, c9⟩ := HX3.out.box.cells
    cases d with
    | false =>
      have XC := Lib.hid (X4.out w3 HB3.out)
      clear X3 X4
      as_aux_lemma =>
      go_wp2_with (first
        | (go_at_call 39; (with_reducible refine XC.out.mono ?_); rintro e w4 ⟨v, rfl, ho, hb4⟩; (obtain ⟨A9, k9, rfl, _⟩ := own_shape ho); (have HO := Lib.hid ho); (have HX4 := Lib.hid (HX3.out.below hb4)); (have HB4 := Lib.hid (below_to HB3.out hb4 HB3.out.size)); clear ho hb4)
        | (refine wpList_store_row rfl 42 (.tmp 6) (.tmp 23) rfl (B0 + 1) (p.row (.slice A9 p.b.length k9)) rfl rfl 42 _ HX4.out.z ipSize rfl (ipRow_one _ _ _ _) ?_))
      (try simp only [Exit.inBlock, Exit.then])
      refine bodyPost_ret (results_cell_two_row rfl _ _ (B0 + 1) _ (p.row (.slice A9 p.b.length k9)) (0, 0) _ rfl (setRow_heap _ _ _ _ _ _ HX4.out.z) Tryd.underlying42 rfl ipSize) rfl ?_
      have hal : Alone p := by
        have := HD.out
        exact Classical.byContradiction fun h => by have := this.2 h; cases this
      exact ftake_ok HBe.out HX4.out (.alone HBb.out hal) HO.out ⟨b, Gs, rep, HT.out.below HB4.out⟩ (Did.of_below HB4.out) (fun k hk => by
        have h1 := (HO.out.lt k hk).1
        have h2 := HB3.out.size
        exact ⟨.inr (by omega), fun hF => absurd (HT.out.flt k hF) (by omega)⟩)
    | true =>
      have hna : ¬ Alone p := HD.out.1 rfl
      have HNa := Lib.hid hna
      clear hna HD X4
      have hky : KyIn p.key4 := HIn.out.ky
      obtain ⟨k, hk⟩ : ∃ k, p.key4 = k := ⟨_, rfl⟩
      rw [hk] at X3 hky
      have HK := Lib.hid hk
      have HKy := Lib.hid hky
      unfold keyV at X3
      clear hk hky
      go_upto_region 7 with (go_at_call 43; (with_reducible refine (X3.out _).mono ?_); rintro e w4 ⟨rfl, hb4⟩; (have HX4 := Lib.hid (HX3.out.below hb4)); (have HB4 := Lib.hid (below_to HB3.out hb4 HB3.out.size)); clear hb4)
      have HBa := below_al (Below.refl _ w4) (.cells #[.int .u32 k.1, .int .u32 k.2.1, .int .u8 k.2.2.1, .int .u16 k.2.2.2] 95)
      have HX5 := Lib.hid (HX4.out.below HBa)
      have HB5 := Lib.hid (below_to HB4.out HBa HB4.out.size)
      have HK5 : Hid (Kx (w4.alloc (.cells #[.int .u32 k.1, .int .u32 k.2.1, .int .u8 k.2.2.1, .int .u16 k.2.2.2] 95)) w4.heap.size k F) := Lib.hid ⟨heap_alloc_new w4 _, fun e => absurd (HT.out.flt _ e) (by have := HB4.out.size; omega)⟩
      have HT5 := Lib.hid (HT.out.below HB5.out)
      generalize w4.alloc (.cells #[.int .u32 k.1, .int .u32 k.2.1, .int .u8 k.2.2.1, .int .u16 k.2.2.2] 95) = w5 at HX5 HB5 HK5 HT5 ⊢
      generalize w4.heap.size = K0 at HK5 ⊢
      clear HBa X3 HX3 HB3 HX4 HB4 c0 c1 c2 c3 c4 c5 c6 c7 c8 c9 HT
      obtain ⟨k0, k1, k2, k3⟩ := HK5.out.cells
      have hp := HT5.out.c1
      obtain ⟨hv, hhv⟩ : ∃ hv : Value, ptOf (hget S k) (rep k) = hv := ⟨_, rfl⟩
      have KS : Hid (∀ W', Below w5.heap.size w5 W' → W'.cell? ⟨r, 1, none⟩ = some (.map (some b)) ∧ W'.cell? ⟨K0, 0, none⟩ = some (.int .u32 k.1) ∧ W'.cell? ⟨K0, 1, none⟩ = some (.int .u32 k.2.1) ∧ W'.cell? ⟨K0, 2, none⟩ = some (.int .u8 k.2.2.1) ∧ W'.cell? ⟨K0, 3, none⟩ = some (.int .u16 k.2.2.2) ∧ (Instr.lookup 90 (.map (some b)) (.agg #[.int .u32 k.1, .int .u32 k.2.1, .int .u8 k.2.2.1, .int .u16 k.2.2.2]) false).run Tryd.prog W' = .ok hv W') := Lib.hid (fun W' hW => by
        have t := HT5.out.below hW
        obtain ⟨q0, q1, q2, q3⟩ := (HK5.out.below hW).cells
        have l := t.asked HKy.out
        rw [hhv] at l
        exact ⟨t.c1, q0, q1, q2, q3, l⟩)
      have Hhv := Lib.hid hhv
      clear hhv
      go_region_held_law (fun W' => W'.cell? ⟨r, 1, none⟩ = some (.map (some b)) ∧ W'.cell? ⟨K0, 0, none⟩ = some (.int .u32 k.1) ∧ W'.cell? ⟨K0, 1, none⟩ = some (.int .u32 k.2.1) ∧ W'.cell? ⟨K0, 2, none⟩ = some (.int .u8 k.2.2.1) ∧ W'.cell? ⟨K0, 3, none⟩ = some (.int .u16 k.2.2.2) ∧ (Instr.lookup 90 (.map (some b)) (.agg #[.int .u32 k.1, .int .u32 k.2.1, .int .u8 k.2.2.1, .int .u16 k.2.2.2]) false).run Tryd.prog W' = .ok hv W')
        (first | assumption | exact KS.out _ (drew_belowH _ 1) | exact KS.out _ (Below.refl _ w5))
        (fail)
      have HBd := drew_belowH w5 1
      have HX6 := Lib.hid (HX5.out.below HBd)
      have HB6 := Lib.hid (below_to HB5.out HBd HB5.out.size)
      have HK6 := Lib.hid (HK5.out.below HBd)
      have HT6 := Lib.hid (HT5.out.below HBd)
      change Hid (Bx (World.drew _) _ _ _ _) at HX6
      change Hid (Below _ _ (World.drew _)) at HB6
      change Hid (Kx (World.drew _) _ _ _) at HK6
      change Hid (Tab (World.drew _) _ _ _ _ _ _ _) at HT6
      generalize w5.drew = w6 at HX6 HB6 HK6 HT6 ⊢
      clear HBd KS HX5 HB5 HK5 HT5 k0 k1 k2 k3 hp
      go_upto_region 8 with fail
      obtain ⟨nb, hnb⟩ : ∃ nb, (hget S k).isNone = nb := ⟨_, rfl⟩
      have Hnb := Lib.hid hnb
      clear hnb
      go_cut [33] (fun s33 wx => s33 = .bool nb ∧ wx = w6)
      case first =>
        have h1 := Hhv.out
        cases hq : hget S k with
        | none =>
          rw [hq] at h1
          obtain rfl : hv = .pointer none := h1.symm
          obtain rfl : true = nb := by rw [← Hnb.out, hq]; rfl
          clear h1 hq
          go_wp2_with fail
          go_meet
          exact ⟨rfl, rfl⟩
        | some h =>
          rw [hq] at h1
          obtain rfl : hv = .pointer (some ⟨rep k, 0, none⟩) := h1.symm
          obtain rfl : false = nb := by rw [← Hnb.out, hq]; rfl
          clear h1 hq
          go_wp2_with fail
          go_meet
          exact ⟨rfl, rfl⟩
      obtain ⟨rfl, hwc⟩ := hcut
      subst hwc
      generalize wc = w6 at *
      go_upto_if 33 with fail
      go_cut [11] (fun s11 wx => ∃ (Gs1 : Ky → Nat → Prop) (rep1 : Ky → Nat) (F1 : Nat → Prop), s11 = .pointer (some ⟨rep1 k, 0, none⟩) ∧ Tab wx r b F1 tm Gs1 rep1 (⟨k, since S k now, held S k⟩ :: hdel S k) ∧ Did w6 wx F F1 ∧ (hget S k = none → S.length < 8))
      case first =>
        cases hq : hget S k with
        | some h =>
          obtain rfl : false = nb := by rw [← Hnb.out, hq]; rfl
          have h1 := Hhv.out
          rw [hq] at h1
          obtain rfl : hv = .pointer (some ⟨rep k, 0, none⟩) := h1.symm
          have Hq := Lib.hid hq
          clear h1 hq
          go_wp2_with fail
          go_meet
          refine ⟨Gs, rep, F, rfl, ?_, Did.refl _ _, fun e => by rw [Hq.out] at e; cases e⟩
          rw [since_some Hq.out now 0]
          exact HT6.out.perm (hget_split HT6.out.un Hq.out)
        | none =>
          obtain rfl : true = nb := by rw [← Hnb.out, hq]; rfl
          have Hq := Lib.hid hq
          clear hq
          have c1 := HT6.out.c1
          have hl := HT6.out.len 3
          obtain ⟨n, hn⟩ : ∃ n, S.length = n := ⟨_, rfl⟩
          have Hn := Lib.hid hn
          rw [hn] at hl
          clear hn
          by_cases h8 : 8 ≤ n
          · have q8 : decide (8 ≤ (n : Int)) = true := decide_eq_true (by omega)
            have XW := Lib.hid (fun W => fwrap_any 5 (by omega) 5 rfl W)
            as_aux_lemma =>
            go_wp2_with (first
              | (go_at_call 24; (with_reducible refine (XW.out _).mono ?_); rintro e w7 ⟨q7, rfl, hE7, hb7⟩; (have HE7 := Lib.hid hE7); (have HX7 := Lib.hid (HX6.out.below hb7)); (have HT7 := Lib.hid (HT6.out.below hb7)); (have HB7 := Lib.hid (below_to HB6.out hb7 HB6.out.size)); clear hE7 hb7)
              | (refine wpList_store_row rfl 42 (.tmp 6) (.tmp 40) rfl (B0 + 1) #[.int .u8 0, .int .u16 0, .bool false, .bool false, .int .i64 0, .int .u8 0, .int .u8 0, .int .u32 0, .int .u32 0, .slice none 0 0] rfl rfl 42 _ HX7.out.z ipSize rfl (by simp [Value.oneCell']) ?_))
            (try simp only [Exit.inBlock, Exit.then])
            refine bodyPost_ret (results_cell_two_row rfl _ _ (B0 + 1) _ #[.int .u8 0, .int .u16 0, .bool false, .bool false, .int .i64 0, .int .u8 0, .int .u8 0, .int .u32 0, .int .u32 0, .slice none 0 0] (0, 0) _ rfl (setRow_heap _ _ _ _ _ _ HX7.out.z) Tryd.underlying42 rfl ipSize) rfl ?_
            exact ftake_err HX7.out (.full HBb.out HNa.out (by rw [HK.out]; exact Hq.out) (by rw [Hn.out]; exact h8)) HE7.out ⟨b, Gs, rep, HT7.out⟩ (Did.of_below HB7.out)
          · have q8 : decide (8 ≤ (n : Int)) = false := decide_eq_false (by omega)
            go_upto_region 12 with fail
            have HBa := below_al (Below.refl _ w6) (.cells #[.int .u64 now, .int .u8 0, .int .u16 0, .bool false, .bool false, .int .i64 0, .int .u8 0, .int .u8 0, .int .u32 0, .int .u32 0, .slice none 0 0, .slice none 0 0, .slice none 0 0, .int .i64 0, .bool false] 99)
            have HG7 := Lib.hid (heap_alloc_new w6 (.cells #[.int .u64 now, .int .u8 0, .int .u16 0, .bool false, .bool false, .int .i64 0, .int .u8 0, .int .u8 0, .int .u32 0, .int .u32 0, .slice none 0 0, .slice none 0 0, .slice none 0 0, .int .i64 0, .bool false] 99))
            have HK7 := Lib.hid (HK6.out.below HBa)
            have HT7 := Lib.hid ((HT6.out.below HBa).wide (F' := fun i => F i ∨ i = w6.heap.size) (fun i hi => .inl hi) (fun i hi => by
              rw [World.size_alloc]
              rcases hi with hi | hi
              · exact Nat.lt_succ_of_lt (HT6.out.flt i hi)
              · omega))
            have HBa := Lib.hid HBa
            generalize w6.alloc (.cells #[.int .u64 now, .int .u8 0, .int .u16 0, .bool false, .bool false, .int .i64 0, .int .u8 0, .int .u8 0, .int .u32 0, .int .u32 0, .slice none 0 0, .slice none 0 0, .slice none 0 0, .int .i64 0, .bool false] 99) = w7 at HBa HG7 HK7 HT7 ⊢
            have hnew : ∀ x ∈ S, ¬ Gs x.k w6.heap.size := fun x hx e => absurd (HT6.out.flt _ (HT6.out.home x hx _ e).1) (by omega)
            have hgr : w6.heap.size ≠ r := fun e => absurd HT6.out.lt.1 (by omega)
            obtain ⟨w8, hr8, hT8, hm8⟩ := (HT7.out.below (drew_belowH w7 1)).store (g := w6.heap.size) HKy.out Hq.out (by rw [Hn.out]; omega) Hnow.out (.inr rfl) hnew hgr (show (w7.drewN 1).heap[w6.heap.size]? = _ from HG7.out)
            change Sem.run _ _ (World.drew w7) = _ at hr8
            unfold keyV at hr8
            have HT8 := Lib.hid hT8
            have HM8 := Lib.hid hm8
            obtain ⟨k0, k1, k2, k3⟩ := HK7.out.cells
            have hp := HT7.out.c1
            have HKb : Hid (K0 ≠ b) := Lib.hid (HT7.out.notMap HK7.out.row)
            have H8 := Lib.hid h8
            clear hT8 hm8 hnew hgr c1 hl q8 h8
            obtain ⟨g, hg⟩ : ∃ g, w6.heap.size = g := ⟨_, rfl⟩
            have HGe := Lib.hid hg
            rw [hg] at hr8 HT8 HG7 HT7 ⊢
            clear hg
            go_region_held_law (fun W' => W'.cell? ⟨r, 1, none⟩ = some (.map (some b)) ∧ W'.cell? ⟨K0, 0, none⟩ = some (.int .u32 k.1) ∧ W'.cell? ⟨K0, 1, none⟩ = some (.int .u32 k.2.1) ∧ W'.cell? ⟨K0, 2, none⟩ = some (.int .u8 k.2.2.1) ∧ W'.cell? ⟨K0, 3, none⟩ = some (.int .u16 k.2.2.2))
              (first | assumption | exact ⟨hp, k0, k1, k2, k3⟩ | exact ⟨HT8.out.c1, turned_cellH HM8.out k0, turned_cellH HM8.out k1, turned_cellH HM8.out k2, turned_cellH HM8.out k3⟩)
              (fail)
            all_goals
              go_wp2_with fail
              go_meet
              have e1 : since S k now = now := by unfold since; rw [Hq.out]
              have e2 : held S k = [] := by unfold held; rw [Hq.out]
              have e3 : hdel S k = S := hdel_none Hq.out
              refine ⟨fun i => if i = k then (fun j => j = g) else Gs i, repSet rep k g, fun i => F i ∨ i = g, by simp [repSet], ?_, ?_, fun _ => by have := H8.out; rw [Hn.out]; omega⟩
              · rw [e1, e2, e3]
                exact HT8.out
              · have d1 : Did w6 w7 F (fun i => F i ∨ i = g) := (Did.of_below HBa.out : Did w6 w7 F F).wide (fun i hi => hi.imp id (fun e => by have := HGe.out; omega))
                have d2 : Did w7 (w7.drewN 1) (fun i => F i ∨ i = g) (fun i => F i ∨ i = g) := Did.of_below (drew_belowH w7 1)
                have d3 : Did (w7.drewN 1) w8 (fun i => F i ∨ i = g) (fun i => F i ∨ i = g) := Did.grown HM8.out.grown (fun i e => by cases e; exact .inl HT6.out.fb)
                exact (d1.trans d2).trans d3
      obtain ⟨Gs1, rep1, F1, rfl, hT7, hD7, hroom⟩ := hcut
      have HT7 := Lib.hid hT7
      have HD7 := Lib.hid hD7
      have HRoom := Lib.hid hroom
      have HX7 := Lib.hid (HX6.out.did hD7)
      have HK7 := Lib.hid (HK6.out.did hD7)
      have HDw := Lib.hid ((Did.of_below HB6.out : Did w w6 F F).trans hD7)
      have HR7 := Lib.hid (rd_did Hr.out HB6.out hD7 HA.out)
      generalize wc = w7 at *
      obtain ⟨v, hH, hv, htw⟩ := hT7.heap _ (List.mem_cons_self ..)
      obtain ⟨bv, tv, hAt⟩ := hH.row
      have hlt := hH.lt
      have HAt := Lib.hid hAt
      have HLt := Lib.hid hlt
      have HV := Lib.hid hv
      obtain ⟨l, hl⟩ : ∃ l, held S k = l := ⟨_, rfl⟩
      obtain ⟨t, ht⟩ : ∃ t, since S k now = t := ⟨_, rfl⟩
      have HL := Lib.hid hl
      have Ht := Lib.hid ht
      have hAp : p.b ≠ [] → ∀ a, A = some a → ¬ Gs1 k a.block := fun hne a ha hg => by
        have h1 := (hT7.home _ (List.mem_cons_self ..) a.block hg).1
        rcases hD7.new _ h1 with h2 | h2
        · exact HA.out hne a ha h2
        · have := rd_old Hr.out hne a ha
          have := HB6.out.size
          omega
      have HAp := Lib.hid hAp
      have X5 := Lib.hid (hgoes_any p HBb.out hc HR7.out hv.len hv.far0 hlt hAt)
      unfold Ip.val Ip.row at X5
      clear hT7 hD7 hroom hH hv htw hAt hlt hl ht hAp HX6 HK6 HT6 HB6 Hhv Hnb
      obtain ⟨c0, c1, c2, c3, c4, c5, c6, c7, c8, c9⟩ := HX7.out.box.cells
      obtain ⟨g, hg⟩ : ∃ g, rep1 k = g := ⟨_, rfl⟩
      have Hg := Lib.hid hg
      rw [hg] at X5 ⊢
      clear hg
      go_upto_if 55 with (go_at_call 44; (with_reducible refine X5.out.mono ?_); rintro e w8 ⟨d, rfl, hd, hb8⟩; (have Hd := Lib.hid hd); (have HX8 := Lib.hid (HX7.out.below hb8)); (have HK8 := Lib.hid (HK7.out.below hb8)); (have HT8 := Lib.hid (HT7.out.below hb8)); (have HD8 := Lib.hid (HDw.out.trans (Did.of_below hb8))); (have HR8 := Lib.hid (HR7.out.below hb8)); (have HAt8 := Lib.hid (HAt.out.at (fun i hi => hb8.block i (HLt.out i hi)))); (have HLt8 : Hid (∀ i, Gs1 k i → i < w8.heap.size) := Lib.hid (fun i hi => Nat.lt_of_lt_of_le (HLt.out i hi) hb8.size)); clear hd hb8)
      clear c0 c1 c2 c3 c4 c5 c6 c7 c8 c9 X5 HX7 HK7 HT7 HDw HR7 HAt HLt
      cases d with
      | false =>
        as_aux_lemma =>
        obtain ⟨w9, hrw9, hTw9, hmw9⟩ := (HT8.out.below (drew_belowH w8 1)).drop HKy.out 0
        change Sem.run _ _ (World.drew w8) = _ at hrw9
        unfold keyV at hrw9
        have HTw9 := Lib.hid hTw9
        have HMw9 := Lib.hid hmw9
        obtain ⟨k0, k1, k2, k3⟩ := HK8.out.cells
        have hp := HT8.out.c1
        clear hTw9 hmw9
        go_upto_region 14 with fail
        go_region_held_law (fun W' => W'.cell? ⟨r, 1, none⟩ = some (.map (some b)) ∧ W'.cell? ⟨K0, 0, none⟩ = some (.int .u32 k.1) ∧ W'.cell? ⟨K0, 1, none⟩ = some (.int .u32 k.2.1) ∧ W'.cell? ⟨K0, 2, none⟩ = some (.int .u8 k.2.2.1) ∧ W'.cell? ⟨K0, 3, none⟩ = some (.int .u16 k.2.2.2))
          (first | assumption | exact ⟨hp, k0, k1, k2, k3⟩ | exact ⟨HTw9.out.c1, turned_cellH HMw9.out k0, turned_cellH HMw9.out k1, turned_cellH HMw9.out k2, turned_cellH HMw9.out k3⟩)
          (fail)
        all_goals
          have HD9 : Hid (Did w8 w9 F1 F1) := Lib.hid ((Did.of_below (drew_belowH w8 1) : Did w8 (w8.drewN 1) F1 F1).trans (Did.grown HMw9.out.grown (fun i e => by cases e; exact HT8.out.fb)))
          have HX9 := Lib.hid (HX8.out.did HD9.out)
          have XW := Lib.hid (fun W => fwrap_any 3 (by omega) 3 rfl W)
          clear k0 k1 k2 k3 hp hrw9
          go_wp2_with (first
            | (go_at_call 24; (with_reducible refine (XW.out _).mono ?_); rintro e w10 ⟨q7, rfl, hE7, hb7⟩; (have HE7 := Lib.hid hE7); (have HX10 := Lib.hid (HX9.out.below hb7)); (have HT10 := Lib.hid (HTw9.out.below hb7)); (have HD10 := Lib.hid ((HD8.out.trans HD9.out).trans (Did.of_below hb7))); clear hE7 hb7)
            | (refine wpList_store_row rfl 42 (.tmp 6) (.tmp 61) rfl (B0 + 1) #[.int .u8 0, .int .u16 0, .bool false, .bool false, .int .i64 0, .int .u8 0, .int .u8 0, .int .u32 0, .int .u32 0, .slice none 0 0] rfl rfl 42 _ HX10.out.z ipSize rfl (by simp [Value.oneCell']) ?_))
          (try simp only [Exit.inBlock, Exit.then])
          refine bodyPost_ret (results_cell_two_row rfl _ _ (B0 + 1) _ #[.int .u8 0, .int .u16 0, .bool false, .bool false, .int .i64 0, .int .u8 0, .int .u8 0, .int .u32 0, .int .u32 0, .slice none 0 0] (0, 0) _ rfl (setRow_heap _ _ _ _ _ _ HX10.out.z) Tryd.underlying42 rfl ipSize) rfl ?_
          have hng : ¬ v.Goes p := fun h => by have := Hd.out.2 h; cases this
          rw [HV.out.goes HBb.out] at hng
          refine ftake_err HX10.out (.spoilt (hdel S k) HBb.out HNa.out (by rw [HK.out]; exact HRoom.out) (by rw [HK.out]; exact Classical.byContradiction fun h => hng fun y hy => Classical.byContradiction fun h2 => h ⟨y, hy, h2⟩) (by rw [HK.out])) HE7.out ⟨b, Gs1, rep1, ?_⟩ HD10.out
          have h := HT10.out
          rw [show hdel (⟨k, since S k now, held S k⟩ :: hdel S k) k = hdel S k from hdel_cons (x := ⟨k, since S k now, held S k⟩)] at h
          exact h
      | true =>
        have hg := Hd.out.1 rfl
        have HGo := Lib.hid hg
        have X6 := Lib.hid (hadd_any p HIn.out HBb.out hc HR8.out HAp.out HV.out.len HV.out.far0 HLt8.out HAt8.out)
        unfold Ip.val Ip.row at X6
        rw [Hg.out] at X6
        clear hg Hd
        obtain ⟨c0, c1, c2, c3, c4, c5, c6, c7, c8, c9⟩ := HX8.out.box.cells
        go_upto_region 17 with (go_at_call 45; (with_reducible refine X6.out.mono ?_); rintro e w9 ⟨rfl, G0, bv2, tv2, hH9, hD9⟩; (have HAt9 := Lib.hid hH9.cutoff); (have HD9 := Lib.hid (hD9.wide (F'' := fun i => G0 i ∧ i < w9.heap.size) (fun i hi => hD9.new i hi.1))); clear hH9 hD9)
        clear c0 c1 c2 c3 c4 c5 c6 c7 c8 c9 X6 HR8 HAp
        obtain ⟨G9, hG9⟩ : ∃ G9 : Nat → Prop, (fun i => G0 i ∧ i < w9.heap.size) = G9 := ⟨_, rfl⟩
        have hlt9 : ∀ i, G9 i → i < w9.heap.size := fun i hi => by rw [← hG9] at hi; exact hi.2
        rw [hG9] at HAt9 HD9
        have HLt9 := Lib.hid hlt9
        have HV9 := Lib.hid (HV.out.add HBb.out HNa.out HGo.out)
        have HT9 := Lib.hid (HT8.out.turn (x := ⟨k, since S k now, held S k⟩) HD9.out (show Heap w9 G9 (rep1 k) _ (v.add p) from ⟨⟨bv2, tv2, by rw [Hg.out]; exact HAt9.out⟩, hlt9⟩) HV9.out)
        have hD9 : Did w8 w9 F1 (fun i => F1 i ∨ G9 i) := HD9.out.more (fun i hi => (HT8.out.home _ (List.mem_cons_self ..) i hi).1)
        have HX9 := Lib.hid (HX8.out.did hD9)
        have HK9 := Lib.hid (HK8.out.did hD9)
        have HDw9 := Lib.hid (HD8.out.trans hD9)
        have X7 := Lib.hid (hwhole_any HAt9.out)
        clear hG9 hlt9 hD9 HD9 HAt8 HLt8 HX8 HK8 HT8 HD8
        obtain ⟨d2, hd2⟩ : ∃ d2, decide ((v.add p).en = true ∧ (v.add p).th.count true = (v.add p).bs.length) = d2 := ⟨_, rfl⟩
        rw [hd2] at X7
        have Hd2 := Lib.hid hd2
        clear hd2
        go_upto_if 69 with (go_at_call 46; (with_reducible refine X7.out.mono ?_); rintro e w10 ⟨rfl, hb⟩; (have HX10 := Lib.hid (HX9.out.below hb)); (have HK10 := Lib.hid (HK9.out.below hb)); (have HT10 := Lib.hid (HT9.out.below hb)); (have HD10 := Lib.hid (HDw9.out.trans (Did.of_below hb))); (have HAt10 := Lib.hid (HAt9.out.at (fun i hi => hb.block i (HLt9.out i hi)))); (have HLt10 : Hid (∀ i, G9 i → i < w10.heap.size) := Lib.hid (fun i hi => Nat.lt_of_lt_of_le (HLt9.out i hi) hb.size)); clear hb)
        clear X7 HX9 HK9 HT9 HDw9 HAt9 HLt9
        have hgo : ∀ y ∈ held S k, goesT y p := (HV.out.goes HBb.out).1 HGo.out
        have HGo2 := Lib.hid hgo
        clear hgo
        cases d2 with
        | false =>
          as_aux_lemma =>
          go_wp2_with (refine wpList_store_row rfl 42 (.tmp 6) (.tmp 70) rfl (B0 + 1) #[.int .u8 0, .int .u16 0, .bool false, .bool false, .int .i64 0, .int .u8 0, .int .u8 0, .int .u32 0, .int .u32 0, .slice none 0 0] rfl rfl 42 _ HX10.out.z ipSize rfl (by simp [Value.oneCell']) ?_)
          (try simp only [Exit.inBlock, Exit.then])
          refine bodyPost_ret (results_cell_two_row rfl _ _ (B0 + 1) _ #[.int .u8 0, .int .u16 0, .bool false, .bool false, .int .i64 0, .int .u8 0, .int .u8 0, .int .u32 0, .int .u32 0, .slice none 0 0] (0, 0) _ rfl (setRow_heap _ _ _ _ _ _ HX10.out.z) Tryd.underlying42 rfl ipSize) rfl ?_
          have hnf : ¬ Full (held S k ++ [p]) := fun h => by
            have := HV9.out.whole.2 h
            have := Hd2.out
            simp_all
          exact ftake_err HX10.out (.waits _ HBb.out HNa.out (by rw [HK.out]; exact HRoom.out) (by rw [HK.out]; exact HGo2.out) (by rw [HK.out]; exact hnf) (by rw [HK.out])) (.inl ⟨rfl, rfl⟩) ⟨b, _, _, HT10.out⟩ HD10.out
        | true =>
          as_aux_lemma =>
          obtain ⟨w11, hrw11, hTw11, hmw11⟩ := (HT10.out.below (drew_belowH w10 1)).drop HKy.out 0
          change Sem.run _ _ (World.drew w10) = _ at hrw11
          unfold keyV at hrw11
          have HTw11 := Lib.hid hTw11
          have HMw11 := Lib.hid hmw11
          obtain ⟨k0, k1, k2, k3⟩ := HK10.out.cells
          have hp := HT10.out.c1
          clear hTw11 hmw11
          go_upto_region 19 with fail
          go_region_held_law (fun W' => W'.cell? ⟨r, 1, none⟩ = some (.map (some b)) ∧ W'.cell? ⟨K0, 0, none⟩ = some (.int .u32 k.1) ∧ W'.cell? ⟨K0, 1, none⟩ = some (.int .u32 k.2.1) ∧ W'.cell? ⟨K0, 2, none⟩ = some (.int .u8 k.2.2.1) ∧ W'.cell? ⟨K0, 3, none⟩ = some (.int .u16 k.2.2.2))
            (first | assumption | exact ⟨hp, k0, k1, k2, k3⟩ | exact ⟨HTw11.out.c1, turned_cellH HMw11.out k0, turned_cellH HMw11.out k1, turned_cellH HMw11.out k2, turned_cellH HMw11.out k3⟩)
            (fail)
          all_goals
            have HD11 : Hid (Did w10 w11 (fun i => F1 i ∨ G9 i) (fun i => F1 i ∨ G9 i)) := Lib.hid ((Did.of_below (drew_belowH w10 1) : Did w10 (w10.drewN 1) (fun i => F1 i ∨ G9 i) (fun i => F1 i ∨ G9 i)).trans (Did.grown HMw11.out.grown (fun i e => by cases e; exact HT10.out.fb)))
            have HX11 := Lib.hid (HX10.out.did HD11.out)
            have hgb : ∀ i, G9 i → i ≠ b := fun i hi => (HT10.out.home _ (List.mem_cons_self ..) i (by simpa using hi)).2.2
            have HAt11 := Lib.hid (HAt10.out.at (w' := w11) (fun i hi => HMw11.out.grown.block i (HLt10.out i hi) (fun e => hgb i hi (Option.some.inj e))))
            have X8 := Lib.hid (hpacket_any HAt11.out)
            obtain ⟨A9, k9, hb9, _⟩ := own_shape HAt11.out.b
            obtain ⟨q, hq⟩ : ∃ q, (v.add p).told = q := ⟨_, rfl⟩
            have hqb : (v.add p).bs.length = q.b.length := by rw [← hq]; rfl
            rw [hqb] at hb9
            rw [hq, hb9] at X8
            have Hq := Lib.hid hq
            have Hb9 := Lib.hid hb9
            unfold Ip.val Ip.row at X8
            clear k0 k1 k2 k3 hp hrw11 hgb hq hb9 hqb
            go_wp2_with (first
              | (go_at_call 47; (with_reducible refine X8.out.mono ?_); rintro e w12 ⟨rfl, hb12⟩; (have HX12 := Lib.hid (HX11.out.below hb12)); (have HB12 := Lib.hid hb12); clear hb12)
              | (refine wpList_store_row rfl 42 (.tmp 6) (.tmp 77) rfl (B0 + 1) (q.row (.slice A9 q.b.length k9)) rfl rfl 42 _ HX12.out.z ipSize rfl (ipRow_one _ _ _ _) ?_))
            (try simp only [Exit.inBlock, Exit.then])
            refine bodyPost_ret (results_cell_two_row rfl _ _ (B0 + 1) _ (q.row (.slice A9 q.b.length k9)) (0, 0) _ rfl (setRow_heap _ _ _ _ _ _ HX12.out.z) Tryd.underlying42 rfl ipSize) rfl ?_
            have hb12 := HB12.out
            have hdc : hdel (⟨k, since S k now, held S k ++ [p]⟩ :: hdel S k) k = hdel S k := hdel_cons (x := ⟨k, since S k now, held S k ++ [p]⟩)
            have hT12 := HTw11.out.below hb12
            rw [hdc] at hT12
            have hhome := HT10.out.home _ (List.mem_cons_self ..)
            have hG9k : ∀ i, G9 i → (if k = k then G9 else Gs1 k) i := fun i hi => by simpa using hi
            have hless := hT12.less (G := G9) (fun x hx i hi hg => by
              have hxk : x.k ≠ k := (mem_hdel.1 hx).2
              exact HT10.out.apart x (List.mem_cons_of_mem _ hx) _ (List.mem_cons_self ..) hxk i hi (hG9k i hg)) (fun e => (hhome r (hG9k r e)).2.1 rfl) (fun e => (hhome b (hG9k b e)).2.2 rfl)
            have hD12 := (HD10.out.trans HD11.out).trans (Did.of_below hb12)
            have hAt12 := HAt11.out.at (w' := w12) (fun i hi => hb12.block i (Nat.lt_of_lt_of_le (HLt10.out i hi) HD11.out.size))
            have hv := hAt12.b
            have hqb : (v.add p).bs = q.b := by rw [← Hq.out]; rfl
            rw [hqb] at hv
            rw [Hb9.out] at hv
            refine ftake_ok HBe.out (HX12.out.less (fun i hi => hi.1)) (.whole (hdel S k) q HBb.out HNa.out (by rw [HK.out]; exact HRoom.out) (by rw [HK.out]; exact HGo2.out) (by rw [HK.out, ← Hq.out]; exact HV9.out.isWhole (by simpa using Hd2.out)) (by rw [HK.out])) hv ⟨b, _, _, hless⟩ (hD12.wide (fun i hi => hD12.new i hi.1)) (fun i hi => ?_)
            have hg : G9 i := hAt12.bown i (by rw [Hb9.out]; exact hi)
            exact ⟨HD10.out.new i (.inr hg), fun h => h.2 hg⟩
  · have HBb := Lib.hid hbad
    have HC := Lib.hid hch
    have HB2 := Lib.hid (below_to HB.out hb2 HB.out.size)
    have HX2 := Lib.hid (HX.out.below hb2)
    clear hbad hch hb2 X1 X2 X3 X4 HX HB c0 c1 c2 c3 c4 c5 c6 c7 c8 c9
    as_aux_lemma =>
    have XW := Lib.hid (fwrapped_any HBb.out HC.out)
    go_upto_region 3 with fail
    go_wp2_with (first
      | (go_at_call 24; (with_reducible refine XW.out.mono ?_); rintro e w3 ⟨q3, rfl, hE3, hb3⟩; (have HE3 := Lib.hid hE3); (have HX3 := Lib.hid (HX2.out.below hb3)); (have HB3 := Lib.hid (below_to HB2.out hb3 HB2.out.size)); clear hE3 hb3)
      | (refine wpList_store_row rfl 42 (.tmp 6) (.tmp 16) rfl (B0 + 1) #[.int .u8 0, .int .u16 0, .bool false, .bool false, .int .i64 0, .int .u8 0, .int .u8 0, .int .u32 0, .int .u32 0, .slice none 0 0] rfl rfl 42 _ HX3.out.z ipSize rfl (by simp [Value.oneCell']) ?_))
    (try simp only [Exit.inBlock, Exit.then])
    refine bodyPost_ret (results_cell_two_row rfl _ _ (B0 + 1) _ #[.int .u8 0, .int .u16 0, .bool false, .bool false, .int .i64 0, .int .u8 0, .int .u8 0, .int .u32 0, .int .u32 0, .slice none 0 0] (0, 0) _ rfl (setRow_heap _ _ _ _ _ _ HX3.out.z) Tryd.underlying42 rfl ipSize) rfl ?_
    exact ftake_err HX3.out (.wrong HBb.out) HE3.out ⟨b, Gs, rep, HT.out.below HB3.out⟩ (Did.of_below HB3.out)
end Go.Proofs.YtdmogppkambgaaaDoor
namespace Go.Proofs.YtdmogppkambgaaaDoor
open Go.RowKit Go.Maps

set_option maxRecDepth 100000 in
theorem fnew_any (tm : Int) (htm : UW tm) (w : World) : Calls Tryd.prog 20 #[.int .u64 tm] w fun e w' => ∃ r F, e = .returned (.pointer (some ⟨r, 0, none⟩)) ∧ Ra w' r F tm [] ∧ (∀ k, F k → w.heap.size ≤ k) ∧ Below w.heap.size w w' := by
  have hmm := @run_makeMap Tryd.prog
  go_enter Tryd.func20, Tryd.ntmps20
  go_wp2_with fail
  go_ret
  refine ⟨w.heap.size + 1, fun k => k = w.heap.size ∨ k = w.heap.size + 1, rfl, ⟨w.heap.size, fun _ _ => False, fun _ => 0, ?_, ?_, ⟨.map [], (World.ownsMap_made w _ _ _).alloc _, Reads.nil _⟩, fun h hh => (by cases hh), fun h hh => (by cases hh), fun h hh => (by cases hh), fun h hh => (by cases hh), List.Pairwise.nil, by simp, htm, .inr rfl, .inl rfl, fun k hk => by simp; omega⟩, fun k hk => by omega, ((Below.refl _ w).alloc (Nat.le_refl _) _).alloc (by simp) _⟩
  · have h := heap_alloc_new (w.alloc (.map #[] 0)) (Obj.cells #[.int .u64 tm, Value.map (some w.heap.size)] 92)
    rw [World.size_alloc] at h
    unfold World.cell?
    rw [h]
    rfl
  · have h := heap_alloc_new (w.alloc (.map #[] 0)) (Obj.cells #[.int .u64 tm, Value.map (some w.heap.size)] 92)
    rw [World.size_alloc] at h
    unfold World.cell?
    rw [h]
    rfl
set_option maxRecDepth 100000 in
theorem flen_any {w : World} {r : Nat} {F : Nat → Prop} {tm : Int} {S : List Hp} (h : Ra w r F tm S) : Calls Tryd.prog 22 #[.pointer (some ⟨r, 0, none⟩)] w fun e w' => e = .returned (.int .i64 (S.length : Int)) ∧ w' = w := by
  obtain ⟨b, Gs, rep, h⟩ := h
  have hp := h.c1
  have hl := h.len 3
  clear h
  go_enter Tryd.func22, Tryd.ntmps22
  go_wp2_with fail
  go_ret
  exact ⟨rfl, rfl⟩

/-- What is left of the heaps, while a Tick goes through them. -/
def sofar (S : List Hp) (tm now : Int) (left : Lit → Bool) : List Hp := S.filter fun h => left (klit h.k) || !late tm now h
def gone (S : List Hp) (tm now : Int) (left : Lit → Bool) : Nat := (S.filter fun h => !left (klit h.k) && late tm now h).length
theorem klit_same {k k' : Ky} (h : KyIn k) (h' : KyIn k') : (klit k).sameKey (klit k') = decide (k = k') := by
  by_cases e : k = k'
  · subst e
    rw [WideAt.sameKey_self (klit_key k)]
    simp
  · rw [Maps.sameKey_ne (fun e2 => e (klit_inj h h' e2))]
    simp [e]
section
variable {S : List Hp} {tm now : Int} {left : Lit → Bool} {k : Ky} {x : Hp}
theorem gone_len (S : List Hp) (tm now : Int) (left : Lit → Bool) : (sofar S tm now left).length + gone S tm now left = S.length := by
  have h := filter_two (fun h : Hp => !left (klit h.k) && late tm now h) S
  have e : (fun x : Hp => !(!left (klit x.k) && late tm now x)) = fun x : Hp => left (klit x.k) || !late tm now x := by
    funext x
    cases left (klit x.k) <;> cases late tm now x <;> rfl
  rw [e] at h
  exact h
theorem sofar_start (h : ∀ y ∈ S, left (klit y.k) = true) : sofar S tm now left = S ∧ gone S tm now left = 0 := by
  refine ⟨List.filter_eq_self.2 fun y hy => by simp [h y hy], ?_⟩
  unfold gone
  rw [List.filter_eq_nil_iff.2 fun y hy => by simp [h y hy]]
  rfl
theorem sofar_end (h : ∀ z, left z = false) : sofar S tm now left = (S.filter fun y => !late tm now y) ∧ gone S tm now left = (S.filter fun y => late tm now y).length := by
  unfold sofar gone
  simp only [h, Bool.false_or, Bool.not_false, Bool.true_and, and_self]
theorem sofar_keep (hin : ∀ y ∈ S, KyIn y.k) (hU : Un S) (hx : x ∈ S) (hl : late tm now x = false) : sofar S tm now (fun z => left z && !z.sameKey (klit x.k)) = sofar S tm now left ∧ gone S tm now (fun z => left z && !z.sameKey (klit x.k)) = gone S tm now left := by
  have key : ∀ y ∈ S, y.k = x.k → late tm now y = false := fun y hy e => by rw [un_one hU hy hx e]; exact hl
  constructor
  · refine List.filter_congr fun y hy => ?_
    dsimp only
    rw [klit_same (hin y hy) (hin x hx)]
    by_cases e : y.k = x.k
    · simp [e, key y hy e]
    · simp [e]
  · unfold gone
    congr 1
    refine List.filter_congr fun y hy => ?_
    dsimp only
    rw [klit_same (hin y hy) (hin x hx)]
    by_cases e : y.k = x.k
    · simp [e, key y hy e]
    · simp [e]
theorem sofar_drop (hin : ∀ y ∈ S, KyIn y.k) (hU : Un S) (hx : x ∈ S) (hlt : left (klit x.k) = true) (hl : late tm now x = true) : sofar S tm now (fun z => left z && !z.sameKey (klit x.k)) = hdel (sofar S tm now left) x.k ∧ gone S tm now (fun z => left z && !z.sameKey (klit x.k)) = gone S tm now left + 1 := by
  have key : ∀ y ∈ S, y.k = x.k → y = x := fun y hy e => un_one hU hy hx e
  constructor
  · unfold hdel sofar
    rw [List.filter_filter]
    refine List.filter_congr fun y hy => ?_
    dsimp only
    rw [klit_same (hin y hy) (hin x hx)]
    by_cases e : y.k = x.k
    · simp [key y hy e, hl]
    · simp [e]
  · have h1 := gone_len S tm now left
    have h2 := gone_len S tm now (fun z => left z && !z.sameKey (klit x.k))
    have hxs : x ∈ sofar S tm now left := List.mem_filter.2 ⟨hx, by simp [hlt]⟩
    have hUs : Un (sofar S tm now left) := List.Pairwise.filter _ hU
    have h3 := len_hdel hUs x.k
    rw [hget_mem hUs hxs] at h3
    have h4 : sofar S tm now (fun z => left z && !z.sameKey (klit x.k)) = hdel (sofar S tm now left) x.k := by
      unfold hdel sofar
      rw [List.filter_filter]
      refine List.filter_congr fun y hy => ?_
      dsimp only
      rw [klit_same (hin y hy) (hin x hx)]
      by_cases e : y.k = x.k
      · simp [key y hy e, hl]
      · simp [e]
    rw [h4] at h2
    simp only [Option.isSome_some, if_true] at h3
    omega
theorem sofar_mem (h : x ∈ sofar S tm now left) : x ∈ S := (List.mem_filter.1 h).1
end
/-- 'delete(m, key)', by what it leaves. -/
theorem Tab.dropped {w w' : World} {r b n : Nat} {F : Nat → Prop} {tm : Int} {Gs : Ky → Nat → Prop} {rep : Ky → Nat} {S : List Hp} (h : Tab w r b F tm Gs rep S) {D : DataW Unit} (h2 : Reads D rep S) (hD : Tidy D) {k : Ky} (hk : KyIn k)
    (k1 : w'.ownsMap Tryd.prog 95 ptElem b n (D.del (klit k))) (k2 : w.mapTurned w' b) : Tab w' r b F tm Gs rep (hdel S k) ∧ Reads (D.del (klit k)) rep (hdel S k) := by
  have h3 := h2.del hD h.un hk
  have same := h.turned k2
  refine ⟨⟨?_, ?_, ⟨_, ?_, h3⟩, fun x hx => ?_, fun x hx y hy => h.apart x (mem_hdel.1 hx).1 y (mem_hdel.1 hy).1, fun x hx => h.home x (mem_hdel.1 hx).1, fun x hx => h.kin x (mem_hdel.1 hx).1, un_hdel h.un k, ?_, h.tmw, h.fr, h.fb, fun g hF => Nat.lt_of_lt_of_le (h.flt g hF) k2.grown.size⟩, h3⟩
  · rw [← h.c0]; exact World.cell?_of_block (same r h.lt.1 h.rb)
  · rw [← h.c1]; exact World.cell?_of_block (same r h.lt.1 h.rb)
  · rw [← h3.size]
    exact ownsMap_size k1
  · obtain ⟨v, h4, h5⟩ := h.heap x (mem_hdel.1 hx).1
    exact ⟨v, h4.at (fun i hi => same i (h4.lt i hi) (h.home x (mem_hdel.1 hx).1 i hi).2.2) k2.grown.size, h5⟩
  · have := len_hdel h.un k
    have := h.few
    omega
theorem ptKeyInv : ∀ key kl, keyOf Tryd.prog 95 key = some kl → ∃ x : Ky, key = keyV x := fun key kl h => by
  obtain ⟨x, h1, _⟩ := keyOf_inv h
  exact ⟨x, h1⟩
theorem ptValInv : ∀ v y, ptElem v = some y → ∃ g : Nat, v = .pointer (some ⟨g, 0, none⟩) := fun v y h => by
  obtain ⟨g, h1, _⟩ := ptElem_inv h
  exact ⟨g, h1⟩
/-- While a Tick goes on. -/
structure TickSt (w1 wr : World) (r b rI n : Nat) (F : Nat → Prop) (tm now : Int) (Gs : Ky → Nat → Prop) (rep : Ky → Nat) (S : List Hp) (left : Lit → Bool) (cnt : Nat) : Prop where
  rg : ∃ D, wr.ranges Tryd.prog 95 ptElem b rI n D left cnt ∧ Reads D rep (sofar S tm now left)
  tab : Tab wr r b F tm Gs rep (sofar S tm now left)
  did : Did w1 wr F F
def TickAt (S : List Hp) (now tm : Int) (r : Nat) (F : Nat → Prop) (w : World) (e : Ending) (w' : World) : Prop :=
  ∃ (S' : List Hp) (n : Nat) (F' : Nat → Prop), TickR S tm now S' n ∧ e = .returned (.int .i64 (n : Int)) ∧ Ra w' r F' tm S' ∧ Did w w' F F'

theorem Did.step {w wr w2 : World} {F : Nat → Prop} {q : Nat} (h : Did w wr F F) (hg : wr.grownBy w2 (some q)) (hq : w.heap.size ≤ q) : Did w w2 F F :=
  ⟨hg.os.trans h.os, hg.tape.trans h.tape, hg.output.trans h.output, Nat.le_trans h.size hg.size, fun k hk hn => (hg.block k (Nat.lt_of_lt_of_le hk h.size) (fun e => by cases e; omega)).trans (h.block k hk hn), fun _ h => .inl h⟩
set_option maxRecDepth 100000 in
set_option maxHeartbeats 4000000 in
theorem ftick_any (S : List Hp) (now tm : Int) (r : Nat) (F : Nat → Prop) (w : World) (hRa : Ra w r F tm S) (hn : UW now) : Calls Tryd.prog 37 #[.pointer (some ⟨r, 0, none⟩), .int .u64 now] w (TickAt S now tm r F w) := by
  obtain ⟨b, Gs, rep, hT⟩ := hRa
  have HT := Lib.hid hT
  have hp := hT.c1
  obtain ⟨D, hown, hrd⟩ := hT.own
  have HRd := Lib.hid hrd
  have HOwn := Lib.hid hown
  have Hn := Lib.hid hn
  clear hT hrd hn
  obtain ⟨n, hnn⟩ : ∃ n, S.length = n := ⟨_, rfl⟩
  have Hnn := Lib.hid hnn
  rw [hnn] at hown
  clear hnn
  go_enter Tryd.func37, Tryd.ntmps37
  go_wp2_with (at_range; refine wpList_range_own _ rfl _ 90 rfl 95 97 fK Tryd.underlying90 _ b n D rfl hown ?_; intro w0 hrg0 hg0 hs0)
  go_frame
  have hkin := Lib.hid HT.out.kin
  go_loopw [5, 6, 7] (fun s5 _ _ wr => ∃ (left : Lit → Bool) (cnt : Nat) (m : Nat), s5 = .int .i64 (m : Int) ∧ m = gone S tm now left ∧ TickSt w wr r b w.heap.size n F tm now Gs rep S left cnt) (fun _ _ _ wr => wr.rangeLeft b w.heap.size)
  case atStart =>
    have hst : ∀ y ∈ S, Maps.has D (klit y.k) = true := fun y hy => by
      rw [HRd.out.has y.k (HT.out.kin y hy), hget_mem HT.out.un hy]
      rfl
    obtain ⟨e1, e2⟩ := sofar_start (tm := tm) (now := now) hst
    refine ⟨Maps.has D, Maps.size D, 0, rfl, e2.symm, ⟨D, hrg0, by rw [e1]; exact HRd.out⟩, ?_, ?_⟩
    · rw [e1]
      exact HT.out.at (fun k hk => hg0.block k (HT.out.flt k hk) (by simp)) hg0.size
    · exact ⟨hg0.os, hg0.tape, hg0.output, hg0.size, fun k hk _ => hg0.block k hk (by simp), fun _ h => .inl h⟩
  case round =>
    obtain ⟨left, cnt, m, rfl, hm, hst⟩ := hrel
    obtain ⟨⟨D', hrg, hrd'⟩, htab, hdid⟩ := hst
    have HTab := Lib.hid htab
    have HDid := Lib.hid hdid
    have HRd' := Lib.hid hrd'
    have Hm := Lib.hid hm
    have hmle : m ≤ 8 := by
      have h1 := gone_len S tm now left
      have h2 := HT.out.few
      omega
    clear htab hdid hrd' hm hown hrg0 hg0 hs0 hp
    go_wp2_with (at_next; refine wpList_next_ranges _ rfl _ rfl 95 fK ptElem (fun k : Ky => .agg #[.int .u32 k.1, .int .u32 k.2.1, .int .u8 k.2.2.1, .int .u16 k.2.2.2]) (fun g : Nat => .pointer (some ⟨g, 0, none⟩)) ptKeyInv ptValInv b w.heap.size n _ _ _ rfl hrg ?_ ?_)
    · intro hc0 hl0
      go_wp2_with fail
      go_ret
      obtain ⟨e1, e2⟩ := sofar_end (S := S) (tm := tm) (now := now) hl0
      have hT2 := HTab.out
      rw [e1] at hT2
      refine ⟨_, m, F, ⟨List.Perm.refl _, by rw [Hm.out, e2]⟩, rfl, ⟨b, Gs, rep, hT2⟩, HDid.out⟩
    · intro x1 x2 x3 x4 c kl y1 y2 w2 cnt2 hkey hlk hv hat hrg2 hlt2 hg2 hs2 hen
      obtain ⟨k, hk1, rfl, hk⟩ := keyOf_inv hkey
      obtain ⟨x, hxe⟩ : ∃ x : Ky, (x1, x2, x3, x4) = x := ⟨_, rfl⟩
      obtain rfl : x = k := by rw [← hxe]; exact keyV_inj hk1
      have hhas := HRd'.out.has x hk
      rw [Maps.has_true_of_atKey hat] at hhas
      obtain ⟨h, hget⟩ : ∃ h, hget (sofar S tm now left) x = some h := by
        cases e : hget (sofar S tm now left) x with
        | none => rw [e] at hhas; cases hhas
        | some h => exact ⟨h, rfl⟩
      obtain ⟨hmem, hhk⟩ := hget_some hget
      have hc : c = rep x := by
        have h4 := HRd'.out.at_ x h hk hget (.map [])
        rw [hat] at h4
        obtain ⟨g', hg', hz⟩ := ptElem_inv hv
        have e : c = g' := by simpa using hg'
        rw [(Prod.mk.inj hz).1] at h4
        have h5 : ((g' : Nat) : Int) = (rep x : Int) := by simpa using h4
        omega
      have HT2 := Lib.hid (HTab.out.at (w' := w2) (fun k hk => hg2.block k (HTab.out.flt k hk) (fun e => by cases e; have := HT.out.flt _ hk; omega)) hg2.size)
      have HD2 := Lib.hid (HDid.out.step hg2 (Nat.le_refl _))
      have Hget := Lib.hid hget
      have Hmem := Lib.hid hmem
      have Hhk := Lib.hid hhk
      have HK := Lib.hid hk
      have Hlk := Lib.hid hlk
      have Hlt2 := Lib.hid hlt2
      have Hrg := Lib.hid hrg
      have Hrg2 := Lib.hid hrg2
      subst hc
      have Hxe := Lib.hid hxe
      clear hhas hget hmem hhk hk hlk hlt2 hkey hk1 hv hat hrg hrg2 hg2 hs2 hxe
      go_upto_region 5 with fail
      have HBa := below_al (Below.refl _ w2) (.cells #[.int .u32 x1, .int .u32 x2, .int .u8 x3, .int .u16 x4] 95)
      have hlt3 := HT2.out.lt
      have HT3 := Lib.hid (HT2.out.below HBa)
      have HD3 := Lib.hid (HD2.out.trans (Did.of_below HBa))
      have HK3 : Hid (Kx (w2.alloc (.cells #[.int .u32 x1, .int .u32 x2, .int .u8 x3, .int .u16 x4] 95)) w2.heap.size x F) := Lib.hid ⟨by rw [← Hxe.out]; exact heap_alloc_new w2 _, fun e => absurd (HT2.out.flt _ e) (by omega)⟩
      have Hrg3 := Lib.hid (Hrg2.out.alloc (.cells #[.int .u32 x1, .int .u32 x2, .int .u8 x3, .int .u16 x4] 95))
      generalize w2.alloc (.cells #[.int .u32 x1, .int .u32 x2, .int .u8 x3, .int .u16 x4] 95) = w3 at HT3 HD3 HK3 Hrg3 ⊢
      generalize w2.heap.size = K0 at HK3 ⊢
      clear hen HBa hlt3 HT2 HD2 Hrg2
      obtain ⟨hv, hH, hvo, htw⟩ := HT3.out.heap h Hmem.out
      rw [Hhk.out] at hH
      obtain ⟨bv, tv, hAt⟩ := hH.row
      have HAt := Lib.hid hAt
      have XA := Lib.hid (hage_any now Hn.out htw (show HeapAt w3.drew (Gs x) (rep x) h.t hv bv tv from hAt.at (fun _ _ => rfl)))
      obtain ⟨a, ha⟩ : ∃ a, (if now < h.t then 0 else now - h.t) = a := ⟨_, rfl⟩
      obtain ⟨lt, hlt⟩ : ∃ lt, late tm now h = lt := ⟨_, rfl⟩
      have ql : decide (tm ≤ a) = lt := by rw [← hlt, ← ha]; rfl
      rw [ha] at XA
      have Hlate := Lib.hid hlt
      have t0 := HT3.out.c0
      have t0' : w3.drew.cell? ⟨r, 0, none⟩ = some (.int .u64 tm) := t0
      clear hH hvo htw hAt ha hlt
      go_region_law (go_simp; go_at_call 55; (with_reducible refine XA.out.mono ?_); rintro e w9 ⟨rfl, hw9⟩; subst w9)
      all_goals
        have HBd := drew_belowH w3 1
        have HT4 := Lib.hid (HT3.out.below HBd)
        have HD4 := Lib.hid (HD3.out.trans (Did.of_below HBd))
        have HK4 := Lib.hid (HK3.out.below HBd)
        have Hrg4 := Lib.hid (Hrg3.out.kept (World.grownBy.mk rfl rfl rfl (Nat.le_refl _) (fun _ _ _ => rfl) : w3.grownBy (w3.drewN 1) none) (by simp) (by simp))
        change Hid (Tab (World.drew _) _ _ _ _ _ _ _) at HT4
        change Hid (Did _ (World.drew _) _ _) at HD4
        change Hid (Kx (World.drew _) _ _ _) at HK4
        change Hid (World.ranges (World.drew _) _ _ _ _ _ _ _ _ _) at Hrg4
        generalize w3.drew = w4 at HT4 HD4 HK4 Hrg4 ⊢
        clear HBd HT3 HD3 HK3 Hrg3 t0 t0' XA HAt
        simp only [List.getElem_toArray, List.getElem_cons_succ, List.getElem_cons_zero, Act.put, List.setIfInBounds_toArray, List.set_cons_succ, List.set_cons_zero]
        cases lt with
        | false =>
          go_wp2_with fail
          obtain ⟨e1, e2⟩ := sofar_keep (left := left) hkin.out HT.out.un (sofar_mem Hmem.out) Hlate.out
          rw [Hhk.out] at e1 e2
          go_roundw
          case rel => exact ⟨fun z => left z && !z.sameKey (klit x), cnt2, m, rfl, by rw [e2]; exact Hm.out, ⟨D', Hrg4.out, by rw [e1]; exact HRd'.out⟩, by rw [e1]; exact HT4.out, HD4.out⟩
          case measure => rw [Hrg4.out.left_eq, Hrg.out.left_eq]; exact Hlt2.out
        | true =>
          obtain ⟨w9, cnt9, hr9, hrg9, hle9, hm9⟩ := (Hrg4.out.kept (World.grownBy.mk rfl rfl rfl (Nat.le_refl _) (fun _ _ _ => rfl) : w4.grownBy (w4.drewN 1) none) (by simp) (by simp)).drop fK Tryd.underlying90 (keyOf_key HK.out) 0
          rw [Maps.strike_twice] at hrg9
          obtain ⟨hT9, hR9⟩ := (HT4.out.below (drew_belowH w4 1)).dropped HRd'.out (Hrg4.out.owns.tidy fK) HK.out hrg9.owns hm9
          have HD9 := Lib.hid ((HD4.out.trans (Did.of_below (drew_belowH w4 1))).trans (Did.grown hm9.grown (fun i e => by cases e; exact HT4.out.fb)))
          have HT9 := Lib.hid hT9
          have HR9 := Lib.hid hR9
          have HM9 := Lib.hid hm9
          have Hrg9 := Lib.hid hrg9
          have Hle9 := Lib.hid hle9
          change Sem.run _ _ (World.drew w4) = _ at hr9
          unfold keyV at hr9
          obtain ⟨k0, k1, k2, k3⟩ := HK4.out.cells
          have hp := HT4.out.c1
          clear hT9 hR9 hm9 hrg9 hle9
          go_upto_region 6 with fail
          go_region_held_law (fun W' => W'.cell? ⟨r, 1, none⟩ = some (.map (some b)) ∧ W'.cell? ⟨K0, 0, none⟩ = some (.int .u32 x.1) ∧ W'.cell? ⟨K0, 1, none⟩ = some (.int .u32 x.2.1) ∧ W'.cell? ⟨K0, 2, none⟩ = some (.int .u8 x.2.2.1) ∧ W'.cell? ⟨K0, 3, none⟩ = some (.int .u16 x.2.2.2))
            (first | assumption | exact ⟨hp, k0, k1, k2, k3⟩ | exact ⟨HT9.out.c1, turned_cellH HM9.out k0, turned_cellH HM9.out k1, turned_cellH HM9.out k2, turned_cellH HM9.out k3⟩)
            (fail)
          all_goals
            have qm : IntKind.i64.wrap ((m : Int) + 1) = (m : Int) + 1 := by rw [IntKind.wrap_i64]; omega
            go_wp2_with fail
            obtain ⟨e1, e2⟩ := sofar_drop (left := left) hkin.out HT.out.un (sofar_mem Hmem.out) (by rw [Hhk.out]; exact Hlk.out) Hlate.out
            rw [Hhk.out] at e1 e2
            go_roundw
            case rel => exact ⟨fun z => left z && !z.sameKey (klit x), cnt9, m + 1, by simp, by rw [e2, Hm.out], ⟨_, Hrg9.out, by rw [e1]; exact HR9.out⟩, by rw [e1]; exact HT9.out, HD9.out⟩
            case measure => rw [Hrg9.out.left_eq, Hrg.out.left_eq]; have h1 := Hle9.out; have h2 := Hlt2.out; omega
end Go.Proofs.YtdmogppkambgaaaDoor
namespace Go.Proofs.YtdmogppkambgaaaDoor

theorem frag_ok : FgOk Ra where
  at_ := fun h hk hs => h.at hk hs
  flt := fun h k hk => by
    obtain ⟨b, Gs, rep, h⟩ := h
    exact h.flt k hk
  un := fun h => by
    obtain ⟨b, Gs, rep, h⟩ := h
    exact ⟨h.un, h.few⟩
  new := fun tm w htm => fnew_any tm htm w
  take := fun S p now tm r F A c w hR hp hf hn hc hr hA => ftake_any S p now tm r F A c w hR hp hf hn hc hr hA
  tick := fun S now tm r F w hR hn => ftick_any S now tm r F w hR hn
  len := fun S tm r F w hR => flen_any hR
end Go.Proofs.YtdmogppkambgaaaDoor
