/-
  What is proved: a cache in memory: what its map holds is a rising row of entries, each with its packets; looked up, stored, taken out, counted.
  Conditions: the numbers fit their types.
-/
import Derived.Test.YtfeipeninmclkaaCaL
import Derived.Test.YtfeipeninmclkaaSMem
import Derived.Maps.OwnSet
import Derived.Maps.RangeWalk
import Derived.DeepKeys4
import Derived.Sort.Row
namespace Go.Proofs.Ytfeipeninmclkaa
open Go.RowKit Go.Maps

def U32 (x : Int) : Prop := 0 ≤ x ∧ x < 4294967296
def U64 (x : Int) : Prop := 0 ≤ x ∧ x < 18446744073709551616
theorem U32.wf {x : Int} (h : U32 x) : (Lit.int .u32 x).wf = true := by
  have hmin : IntKind.u32.min = 0 := by rfl
  have hmax : IntKind.u32.max = 4294967295 := by rfl
  unfold U32 at h
  simp [Lit.wf, hmin, hmax]
  omega
theorem U32.of {x : Int} (h : (Lit.int .u32 x).wf = true) : U32 x := by
  have hmin : IntKind.u32.min = 0 := by rfl
  have hmax : IntKind.u32.max = 4294967295 := by rfl
  simp [Lit.wf, hmin, hmax] at h
  unfold U32
  omega
structure Mc.In (m : Mc) : Prop where
  a : 0 ≤ m.a ∧ m.a < 256
  b : 0 ≤ m.b ∧ m.b < 256
  c : 0 ≤ m.c ∧ m.c < 256
  d : 0 ≤ m.d ∧ m.d < 256
  e : 0 ≤ m.e ∧ m.e < 256
  f : 0 ≤ m.f ∧ m.f < 256
structure En.Ok (e : En) : Prop where
  ip : U32 e.ip
  t : U64 e.t
  tr0 : 0 ≤ e.tr
  tr1 : e.tr ≤ 3
  few : e.pk.length ≤ 4
  kn : e.kn = true → e.pk = []
  ne : e.kn = false → e.pk ≠ []

/-- A slice's value, in a block of its own from its first cell on. -/
def slv : Option (Nat × Nat × Nat) → Value
  | none => .slice none 0 0
  | some (g, n, c) => .slice (some ⟨g, 0, none⟩) n c
/-- An entry as the map holds it. -/
structure Raw where
  kn : Bool
  m : Mc
  t : Int
  tr : Int
  sl : Option (Nat × Nat × Nat)
def Raw.val (r : Raw) : Value := .agg #[.bool r.kn, .int .u8 r.m.a, .int .u8 r.m.b, .int .u8 r.m.c, .int .u8 r.m.d, .int .u8 r.m.e, .int .u8 r.m.f, .int .u64 r.t, .int .i64 r.tr, slv r.sl]
def Raw.cells (r : Raw) : Array Value := #[.bool r.kn, .int .u8 r.m.a, .int .u8 r.m.b, .int .u8 r.m.c, .int .u8 r.m.d, .int .u8 r.m.e, .int .u8 r.m.f, .int .u64 r.t, .int .i64 r.tr, slv r.sl]
def Raw.zero : Raw := ⟨false, Mc.zero, 0, 0, none⟩
def slDat : Option (Nat × Nat × Nat) → List (DataW Unit)
  | none => []
  | some (g, n, c) => [.lit (.int .i64 g), .lit (.int .i64 n), .lit (.int .i64 c)]
def Raw.dat (r : Raw) : DataW Unit := .agg ([.lit (.bool r.kn), .lit (.int .u8 r.m.a), .lit (.int .u8 r.m.b), .lit (.int .u8 r.m.c), .lit (.int .u8 r.m.d), .lit (.int .u8 r.m.e), .lit (.int .u8 r.m.f), .lit (.int .u64 r.t), .lit (.int .i64 r.tr)] ++ slDat r.sl)
theorem slv_inj {x y : Option (Nat × Nat × Nat)} (h : slv x = slv y) : x = y := by
  rcases x with _ | ⟨g, n, c⟩ <;> rcases y with _ | ⟨g', n', c'⟩ <;> simp [slv] at h ⊢
  exact h
theorem slDat_inj {x y : Option (Nat × Nat × Nat)} (h : slDat x = slDat y) : x = y := by
  rcases x with _ | ⟨g, n, c⟩ <;> rcases y with _ | ⟨g', n', c'⟩ <;> simp [slDat] at h ⊢
  omega
theorem Raw.val_inj {r s : Raw} (h : r.val = s.val) : r = s := by
  obtain ⟨k, ⟨a, b, c, d, e, f⟩, t, tr, sl⟩ := r
  obtain ⟨k', ⟨a', b', c', d', e', f'⟩, t', tr', sl'⟩ := s
  simp [Raw.val] at h
  obtain ⟨rfl, rfl, rfl, rfl, rfl, rfl, rfl, rfl, rfl, h⟩ := h
  rw [slv_inj h]
theorem Raw.dat_inj {r s : Raw} (h : r.dat = s.dat) : r = s := by
  obtain ⟨k, ⟨a, b, c, d, e, f⟩, t, tr, sl⟩ := r
  obtain ⟨k', ⟨a', b', c', d', e', f'⟩, t', tr', sl'⟩ := s
  simp [Raw.dat] at h
  obtain ⟨rfl, rfl, rfl, rfl, rfl, rfl, rfl, rfl, rfl, h⟩ := h
  rw [slDat_inj h]

open Classical in
/-- How an entry in the map reads. -/
noncomputable def enElem (v : Value) : Option (DataW Unit × List MemPlace) := if h : ∃ r : Raw, v = r.val then some ((Classical.choose h).dat, []) else none
theorem enElem_val (r : Raw) : enElem r.val = some (r.dat, []) := by
  have h : ∃ r' : Raw, r.val = r'.val := ⟨r, rfl⟩
  unfold enElem
  rw [dif_pos h, ← Raw.val_inj (Classical.choose_spec h)]
theorem enElem_inv {v : Value} {z : DataW Unit × List MemPlace} (h : enElem v = some z) : ∃ r : Raw, v = r.val ∧ z = (r.dat, []) := by
  by_cases hv : ∃ r : Raw, v = r.val
  · obtain ⟨r, rfl⟩ := hv
    rw [enElem_val] at h
    exact ⟨r, rfl, (Option.some.inj h).symm⟩
  · unfold enElem at h
    rw [dif_neg hv] at h
    cases h

theorem caK : Keyed Try.prog 32 := int_keyed Try.underlying32
def klit (k : Int) : Lit := .int .u32 k
theorem keyOf_ip {k : Int} (h : U32 k) : keyOf Try.prog 32 (.int .u32 k) = some (klit k) := keyOf_int_mk Try.underlying32 h.wf
theorem klit_key (k : Int) : WideAt.IsKeyLit (klit k) := trivial
theorem klit_inj {a b : Int} (h : klit a = klit b) : a = b := by simpa [klit] using h

/-- Where an entry's packets lie: their row's block, and how many the row could hold. -/
abbrev Rep := Int → Nat × Nat
def En.raw (e : En) (q : Nat × Nat) : Raw := ⟨e.kn, e.m, e.t, e.tr, if e.pk = [] then none else some (q.1, e.pk.length, q.2)⟩
/-- What a map reads as: a rising row of entries. -/
structure Reads (D : DataW Unit) (rep : Rep) (L : List En) : Prop where
  has : ∀ k, Maps.has D (klit k) = (look L k).isSome
  at_ : ∀ k e, look L k = some e → ∀ z, D.atKey (klit k) z = (e.raw (rep k)).dat
  size : Maps.size D = L.length
theorem Reads.nil (rep : Rep) : Reads (.map []) rep [] := ⟨fun _ => rfl, fun _ _ h => (by cases h), rfl⟩
def Rep.set (rep : Rep) (k : Int) (q : Nat × Nat) : Rep := fun i => if i = k then q else rep i
theorem Reads.put {D : DataW Unit} {rep : Rep} {L : List En} (h : Reads D rep L) (hD : Tidy D) (hs : Srt L) (e : En) (q : Nat × Nat) : Reads (D.put (klit e.ip) (e.raw q).dat) (rep.set e.ip q) (putL L e) where
  has k := by
    by_cases hk : k = e.ip
    · subst hk
      rw [has_put_same hD.isMap (klit_key _), look_put_same hs]
      rfl
    · rw [has_put_other (fun j => hk (klit_inj j)), h.has k, look_put_other hs e hk]
  at_ k s hl z := by
    by_cases hk : k = e.ip
    · subst hk
      rw [look_put_same hs] at hl
      cases hl
      simp only [Rep.set, if_true]
      exact atKey_put_same hD.isMap (klit_key _) _ _
    · rw [atKey_put_other (fun j => hk (klit_inj j))]
      rw [look_put_other hs e hk] at hl
      simp only [Rep.set, hk, if_false]
      exact h.at_ k s hl z
  size := by rw [size_put hD, h.has, h.size, length_put hs]
theorem Reads.del {D : DataW Unit} {rep : Rep} {L : List En} (h : Reads D rep L) (hD : Tidy D) (hs : Srt L) (k0 : Int) : Reads (D.del (klit k0)) rep (delL L k0) where
  has k := by
    by_cases hk : k = k0
    · subst hk
      rw [has_del_same, look_del_same]
      rfl
    · rw [has_del_other (fun j => hk (klit_inj j)), h.has k, look_del_other hs hk]
  at_ k s hl z := by
    by_cases hk : k = k0
    · subst hk
      rw [look_del_same] at hl
      cases hl
    · rw [atKey_del_other (fun j => hk (klit_inj j))]
      rw [look_del_other hs hk] at hl
      exact h.at_ k s hl z
  size := by
    have a := size_del (k := klit k0) hD
    have b := length_del hs k0
    rw [h.has, h.size] at a
    omega
theorem ownsMap_size {H : Type} {w : World} {P : Program} {k : TypeId} {R : Value → Option (DataW H × List MemPlace)} {b n : Nat} {D : DataW H} (h : w.ownsMap P k R b n D) : w.ownsMap P k R b (Maps.size D) D := by
  obtain ⟨es, clock, hb, F, hs, rfl⟩ := h
  exact ⟨es, clock, hb, F, by simp [Maps.size, length_sorted], rfl⟩

/-- A packet: a row of bytes of one's own, in one of the blocks F. -/
structure Pk (w : World) (F : Nat → Prop) (v : Value) (x : List UInt8) : Prop where
  row : w.ownsRow 0 5 1 v x.length (x.map B8)
  own : ∀ g, v.ownBlock = some g → F g
/-- The packets that wait. -/
structure RowOk (w : World) (F : Nat → Prop) (q : Nat × Nat) (pk : List (List UInt8)) (vs : List Value) : Prop where
  row : w.ownsRow 0 35 1 (.slice (some ⟨q.1, 0, none⟩) pk.length q.2) pk.length vs
  own : F q.1
  pks : ∀ (i : Nat) (v : Value) (x : List UInt8), vs[i]? = some v → pk[i]? = some x → Pk w F v x
/-- The struct at p holds the map b, which reads as the rising row L of entries; all of it lies in the blocks F. Of the entry of address x nothing is said of its packets. -/
structure Tab (w : World) (p b : Nat) (F : Nat → Prop) (rep : Rep) (x : Option Int) (L : List En) : Prop where
  cell : w.cell? ⟨p, 0, none⟩ = some (.map (some b))
  own : ∃ D : DataW Unit, w.ownsMap Try.prog 32 enElem b L.length D ∧ Reads D rep L
  rows : ∀ e ∈ L, some e.ip ≠ x → e.pk ≠ [] → ∃ vs, RowOk w F (rep e.ip) e.pk vs
  home : ∀ e ∈ L, e.pk ≠ [] → F (rep e.ip).1
  apart : ∀ e ∈ L, ∀ f ∈ L, e.pk ≠ [] → f.pk ≠ [] → (rep e.ip).1 = (rep f.ip).1 → e.ip = f.ip
  srt : Srt L
  ok : ∀ e ∈ L, e.Ok
  few : L.length ≤ 32
  fp : F p
  fb : F b
  flt : ∀ k, F k → k < w.heap.size
/-- The cache at p. -/
def Ca (w : World) (p : Nat) (F : Nat → Prop) (L : List En) : Prop := ∃ b rep, Tab w p b F rep none L
/-- What an operation does to memory: all but the blocks F stays; what it has then it had before, or it is new. -/
structure Did (w w' : World) (F F' : Nat → Prop) : Prop where
  os : w'.os = w.os
  tape : w'.tape = w.tape
  output : w'.output = w.output
  size : w.heap.size ≤ w'.heap.size
  block : ∀ k, k < w.heap.size → ¬ F k → w'.heap[k]? = w.heap[k]?
  new : ∀ k, F' k → F k ∨ w.heap.size ≤ k

theorem owns_at {w w' : World} {B : Nat} {e : TypeId} {s : Nat} {v : Value} {k : Nat} {xs : List Value} (h : w.ownsRow B e s v k xs) (hv : ∀ g, v.ownBlock = some g → w'.heap[g]? = w.heap[g]?) : w'.ownsRow B e s v k xs := by
  refine ⟨h.1, ?_⟩
  rcases h.2 with h1 | ⟨g, cap, cur, rfl, hb, hg, r⟩
  · exact .inl h1
  · exact .inr ⟨g, cap, cur, rfl, hb, (hv g rfl).trans hg, r⟩
theorem Pk.at {w w' : World} {F : Nat → Prop} {v : Value} {x : List UInt8} (h : Pk w F v x) (hk : ∀ k, F k → w'.heap[k]? = w.heap[k]?) : Pk w' F v x :=
  ⟨owns_at h.row (fun g hg => hk g (h.own g hg)), h.own⟩
theorem Pk.rd {w : World} {F : Nat → Prop} {v : Value} {x : List UInt8} (h : Pk w F v x) : Rd w v x := by
  rcases h.row.2 with ⟨rfl, h0⟩ | ⟨g, cap, cur, rfl, _, hg, h1, h2, h3, h4⟩
  · have hx : x = [] := List.length_eq_zero_iff.1 h0
    subst hx
    exact Rd.nil w
  · refine ⟨_, cap, rfl, h1, fun _ => ⟨g, 0, rfl, fun i u hu => ?_⟩⟩
    rw [Nat.zero_add]
    have hi := (List.getElem?_eq_some_iff.1 hu).1
    have e : (x.map B8)[i]? = some (B8 u) := by simp [hu]
    rw [← h4, List.getElem?_take_of_lt (by omega), Array.getElem?_toList] at e
    simp [World.cell?, hg, e]
theorem Pk.wide {w : World} {F F' : Nat → Prop} {v : Value} {x : List UInt8} (h : Pk w F v x) (hF : ∀ k, F k → F' k) : Pk w F' v x := ⟨h.row, fun g hg => hF g (h.own g hg)⟩
theorem RowOk.at {w w' : World} {F : Nat → Prop} {q : Nat × Nat} {pk : List (List UInt8)} {vs : List Value} (h : RowOk w F q pk vs) (hk : ∀ k, F k → w'.heap[k]? = w.heap[k]?) : RowOk w' F q pk vs :=
  ⟨owns_at h.row (fun g hg => by cases hg; exact hk _ h.own), h.own, fun i v x h1 h2 => (h.pks i v x h1 h2).at hk⟩
theorem RowOk.wide {w : World} {F F' : Nat → Prop} {q : Nat × Nat} {pk : List (List UInt8)} {vs : List Value} (h : RowOk w F q pk vs) (hF : ∀ k, F k → F' k) : RowOk w F' q pk vs :=
  ⟨h.row, hF _ h.own, fun i v x h1 h2 => (h.pks i v x h1 h2).wide hF⟩
theorem RowOk.block {w : World} {F : Nat → Prop} {q : Nat × Nat} {pk : List (List UInt8)} {vs : List Value} (h : RowOk w F q pk vs) : ∃ cur, w.heap[q.1]? = some (.cells cur 35 (0, 0)) ∧ cur.size = q.2 ∧ pk.length ≤ q.2 ∧ cur.toList.take pk.length = vs := by
  rcases h.row.2 with ⟨h1, _⟩ | ⟨g, cap, cur, h1, _, hg, k1, _, k3, k4⟩
  · cases h1
  · cases h1
    exact ⟨cur, hg, by omega, k1, by rw [Nat.mul_one] at k4; exact k4⟩

theorem U8.ne : (5 : TypeId) ≠ 35 := by decide
section
variable {w w' : World} {p b : Nat} {F : Nat → Prop} {rep : Rep} {x : Option Int} {L : List En}
theorem Tab.lt (h : Tab w p b F rep x L) : p < w.heap.size ∧ b < w.heap.size := ⟨h.flt p h.fp, h.flt b h.fb⟩
theorem Tab.at (h : Tab w p b F rep x L) (hk : ∀ k, F k → w'.heap[k]? = w.heap[k]?) (hs : w.heap.size ≤ w'.heap.size) : Tab w' p b F rep x L := by
  obtain ⟨D, ⟨es, clock, hb, Ft, h1, h2⟩, h3⟩ := h.own
  refine ⟨?_, ⟨D, ⟨es, clock, (hk b h.fb).trans hb, Ft, h1, h2⟩, h3⟩, fun e he hx hn => ?_, h.home, h.apart, h.srt, h.ok, h.few, h.fp, h.fb, fun k hF => Nat.lt_of_lt_of_le (h.flt k hF) hs⟩
  · rw [← h.cell]
    unfold World.cell?
    rw [hk p h.fp]
  · obtain ⟨vs, hv⟩ := h.rows e he hx hn
    exact ⟨vs, hv.at hk⟩
theorem Tab.below (h : Tab w p b F rep x L) (hb : Below w.heap.size w w') : Tab w' p b F rep x L := h.at (fun k hF => hb.block k (h.flt k hF)) hb.size
theorem Tab.alloc (h : Tab w p b F rep x L) (o : Obj) : Tab (w.alloc o) p b F rep x L := h.below ((Below.refl _ w).alloc (Nat.le_refl _) o)
theorem Tab.drewN (h : Tab w p b F rep x L) (n : Nat) : Tab (w.drewN n) p b F rep x L := h.at (fun _ _ => rfl) (Nat.le_refl _)
theorem Tab.wide {F' : Nat → Prop} (h : Tab w p b F rep x L) (hF : ∀ k, F k → F' k) (hl : ∀ k, F' k → k < w.heap.size) : Tab w p b F' rep x L :=
  ⟨h.cell, h.own, fun e he hx hn => by obtain ⟨vs, hv⟩ := h.rows e he hx hn; exact ⟨vs, hv.wide hF⟩, fun e he hn => hF _ (h.home e he hn), h.apart, h.srt, h.ok, h.few, hF _ h.fp, hF _ h.fb, hl⟩
/-- While one entry's row of packets is written. -/
theorem Tab.lose (h : Tab w p b F rep none L) {e : En} (he : e ∈ L) (hn : e.pk ≠ []) (hg : w.grownBy w' (some (rep e.ip).1)) : Tab w' p b F rep (some e.ip) L := by
  obtain ⟨vs, hv⟩ := h.rows e he (by simp) hn
  obtain ⟨cur, hcur, hsz, hle, htk⟩ := hv.block
  have hpos : 0 < e.pk.length := List.length_pos_iff.2 hn
  have hvl : vs.length = e.pk.length := by have := hv.row.1; omega
  -- what the row's first cell holds
  obtain ⟨v0, hv0⟩ : ∃ v0, vs[0]? = some v0 := ⟨vs[0]'(by omega), List.getElem?_eq_getElem (by omega)⟩
  obtain ⟨x0, hx0⟩ : ∃ x0, e.pk[0]? = some x0 := ⟨e.pk[0]'(by omega), List.getElem?_eq_getElem (by omega)⟩
  have hk0 := hv.pks 0 v0 x0 hv0 hx0
  have hc0 : cur[0]? = some v0 := by
    rw [← htk, List.getElem?_take_of_lt hpos, Array.getElem?_toList] at hv0
    exact hv0
  have nb : b ≠ (rep e.ip).1 := fun hb => by
    obtain ⟨D, ⟨es, clock, hbk, _⟩, _⟩ := h.own
    rw [hb, hcur] at hbk
    cases hbk
  have np : p ≠ (rep e.ip).1 := fun hp => by
    have hc := h.cell
    rw [hp] at hc
    simp [World.cell?, hcur, hc0] at hc
    subst hc
    rcases hk0.row.2 with ⟨h1, _⟩ | ⟨_, _, _, h1, _⟩ <;> cases h1
  have same : ∀ k, F k → k ≠ (rep e.ip).1 → w'.heap[k]? = w.heap[k]? := fun k hk hne => hg.block k (h.flt k hk) (fun e => hne (Option.some.inj e))
  obtain ⟨D, ⟨es, clock, hb, Ft, h1, h2⟩, h3⟩ := h.own
  refine ⟨?_, ⟨D, ⟨es, clock, (same b h.fb nb).trans hb, Ft, h1, h2⟩, h3⟩, fun f hf hx hfn => ?_, h.home, h.apart, h.srt, h.ok, h.few, h.fp, h.fb, fun k hF => Nat.lt_of_lt_of_le (h.flt k hF) hg.size⟩
  · rw [← h.cell]
    unfold World.cell?
    rw [same p h.fp np]
  · obtain ⟨us, hu⟩ := h.rows f hf (by simp) hfn
    have hne : (rep f.ip).1 ≠ (rep e.ip).1 := fun e' => hx (congrArg some (h.apart f hf e he hfn hn e'))
    refine ⟨us, owns_at hu.row (fun g hgv => by cases hgv; exact same _ hu.own hne), hu.own, fun i v y h1 h2 => ?_⟩
    have hpk := hu.pks i v y h1 h2
    refine ⟨owns_at hpk.row (fun g hgv => same g (hpk.own g hgv) (fun e' => ?_)), hpk.own⟩
    rcases hpk.row.2 with ⟨hv1, _⟩ | ⟨g', cap, cu, hv1, _, hg', _⟩
    · rw [hv1] at hgv
      cases hgv
    · rw [hv1] at hgv
      cases hgv
      have e2 : g' = (rep e.ip).1 := e'
      rw [e2, hcur] at hg'
      exact U8.ne.symm (Obj.cells.inj (Option.some.inj hg')).2.1

theorem ca_zero (W : World) : (zeroValue 71).run Try.prog W = .ok Raw.zero.val W := by kernel_rfl
/-- What a look-up gives. -/
def got (L : List En) (rep : Rep) (k : Int) : Raw := match look L k with | some e => e.raw (rep k) | none => Raw.zero
theorem Tab.asked (h : Tab w p b F rep x L) {k : Int} (hk : U32 k) (c : Bool) :
    (Instr.lookup 63 (.map (some b)) (.int .u32 k) c).run Try.prog w = .ok (if c then .tuple #[(got L rep k).val, .bool (look L k).isSome] else (got L rep k).val) w := by
  obtain ⟨D, ⟨es, clock, hb, Ft, hn, rfl⟩, h2⟩ := h.own
  rcases Maps.fit_look c caK Try.underlying63 (ca_zero w) hb Ft (keyOf_ip hk) with ⟨hrun, _, hat⟩ | ⟨e0, y, _, _, hrun, hRv, hat, _⟩
  · have hnone : look L k = none := by
      have := h2.has k
      rw [Maps.has_false_of_atKey hat] at this
      cases hl : look L k with
      | none => rfl
      | some e => rw [hl] at this; cases this
    rw [hrun]
    simp only [got, hnone]
    rfl
  · have hsome := h2.has k
    rw [Maps.has_true_of_atKey hat] at hsome
    cases hl : look L k with
    | none => rw [hl] at hsome; cases hsome
    | some e =>
      have h4 := h2.at_ k e hl (.map [])
      rw [hat] at h4
      obtain ⟨r, hr, hz⟩ := enElem_inv hRv
      have hre : r = e.raw (rep k) := Raw.dat_inj (by rw [← h4, hz])
      rw [hrun, hr, hre]
      simp only [got, hl]
      rfl
/-- 'len(m)'. -/
theorem Tab.len (h : Tab w p b F rep x L) (ty : TypeId) : (Builtin.len_ #[63] ty #[.map (some b)]).run Try.prog w = .ok (.int .i64 (L.length : Int)) w := by
  obtain ⟨D, h1, h2⟩ := h.own
  rw [h1.len Try.underlying63 ty, h2.size]
/-- 'delete(m, key)'. -/
theorem Tab.drop (h : Tab w p b F rep none L) {k : Int} (hk : U32 k) (ty : TypeId) :
    ∃ w', (Builtin.delete_ #[63, 32] ty #[.map (some b), .int .u32 k]).run Try.prog w = .ok (.tuple #[]) w' ∧ Tab w' p b F rep none (delL L k) ∧ w.mapTurned w' b := by
  obtain ⟨D, h1, h2⟩ := h.own
  obtain ⟨w', hrun, k1, k2⟩ := h1.drop caK Try.underlying63 (keyOf_ip hk) ty
  have h3 := h2.del (h1.tidy caK) h.srt k
  have hne : ∀ {c : Array Value} {t : TypeId} {fr : Nat × Nat} {g : Nat}, w.heap[g]? = some (.cells c t fr) → g ≠ b := fun hg e => by
    obtain ⟨es, clock, hb, _⟩ := h1
    rw [e, hb] at hg
    cases hg
  have same : ∀ g, g < w.heap.size → g ≠ b → w'.heap[g]? = w.heap[g]? := fun g hg hn => k2.grown.block g hg (fun e => hn (Option.some.inj e))
  have hp : p ≠ b := by
    obtain ⟨c, e, fr, hb, _⟩ := Sort.cells_of_cell? h.cell
    exact hne hb
  refine ⟨w', hrun, ⟨?_, ⟨_, ?_, h3⟩, fun e he _ hn => ?_, fun e he => h.home e ((mem_del k e).1 he).1, fun e he f hf => h.apart e ((mem_del k e).1 he).1 f ((mem_del k f).1 hf).1, srt_del h.srt k, fun e he => h.ok e ((mem_del k e).1 he).1, ?_, h.fp, h.fb, fun g hF => Nat.lt_of_lt_of_le (h.flt g hF) k2.grown.size⟩, k2⟩
  · rw [← h.cell]
    unfold World.cell?
    rw [same p h.lt.1 hp]
  · rw [← h3.size]
    exact ownsMap_size k1
  · obtain ⟨vs, hv⟩ := h.rows e ((mem_del k e).1 he).1 (by simp) hn
    obtain ⟨cur, hcur, _⟩ := hv.block
    refine ⟨vs, owns_at hv.row (fun g hg => by cases hg; exact same _ (h.flt _ hv.own) (hne hcur)), hv.own, fun i v y e1 e2 => ?_⟩
    have hpk := hv.pks i v y e1 e2
    refine ⟨owns_at hpk.row (fun g hgv => ?_), hpk.own⟩
    rcases hpk.row.2 with ⟨hv1, _⟩ | ⟨g', cap, cu, hv1, _, hg', _⟩
    · rw [hv1] at hgv
      cases hgv
    · rw [hv1] at hgv
      cases hgv
      exact same _ (h.flt _ (hpk.own _ (by rw [hv1]; rfl))) (hne hg')
  · have := length_del h.srt k
    have := h.few
    omega
/-- 'm[key] = e'. -/
theorem Tab.store (h : Tab w p b F rep x L) {e : En} (hx : x = none ∨ x = some e.ip) (he : e.Ok) (hroom : (putL L e).length ≤ 32) (q : Nat × Nat)
    (hrow : e.pk ≠ [] → ∃ vs, RowOk w F q e.pk vs) (hap : e.pk ≠ [] → ∀ f ∈ L, f.ip ≠ e.ip → f.pk ≠ [] → (rep f.ip).1 ≠ q.1) :
    ∃ w', (Instr.mapUpdate 63 (.map (some b)) (.int .u32 e.ip) (e.raw q).val).run Try.prog w = .ok () w' ∧ Tab w' p b F (rep.set e.ip q) none (putL L e) ∧ w.mapTurned w' b := by
  obtain ⟨D, h1, h2⟩ := h.own
  obtain ⟨w', hrun, k1, k2⟩ := h1.store caK Try.underlying63 (by have := h.few; unfold maxLen; omega) (keyOf_ip he.ip) (enElem_val (e.raw q))
  have h3 := h2.put (h1.tidy caK) h.srt e q
  have hne : ∀ {c : Array Value} {t : TypeId} {fr : Nat × Nat} {g : Nat}, w.heap[g]? = some (.cells c t fr) → g ≠ b := fun hg e => by
    obtain ⟨es, clock, hb, _⟩ := h1
    rw [e, hb] at hg
    cases hg
  have same : ∀ g, g < w.heap.size → g ≠ b → w'.heap[g]? = w.heap[g]? := fun g hg hn => k2.grown.block g hg (fun e => hn (Option.some.inj e))
  have hp : p ≠ b := by
    obtain ⟨c, e, fr, hb, _⟩ := Sort.cells_of_cell? h.cell
    exact hne hb
  have keep : ∀ {q pk vs}, RowOk w F q pk vs → RowOk w' F q pk vs := fun {q pk vs} hv => by
    obtain ⟨cur, hcur, _⟩ := hv.block
    refine ⟨owns_at hv.row (fun g hg => by cases hg; exact same _ (h.flt _ hv.own) (hne hcur)), hv.own, fun i v y e1 e2 => ?_⟩
    have hpk := hv.pks i v y e1 e2
    refine ⟨owns_at hpk.row (fun g hgv => ?_), hpk.own⟩
    rcases hpk.row.2 with ⟨hv1, _⟩ | ⟨g', cap, cu, hv1, _, hg', _⟩
    · rw [hv1] at hgv
      cases hgv
    · rw [hv1] at hgv
      cases hgv
      exact same _ (h.flt _ (hpk.own _ (by rw [hv1]; rfl))) (hne hg')
  have rep_same : (rep.set e.ip q) e.ip = q := by simp [Rep.set]
  have rep_other : ∀ {k}, k ≠ e.ip → (rep.set e.ip q) k = rep k := fun hk => by simp [Rep.set, hk]
  refine ⟨w', hrun, ⟨?_, ⟨_, ?_, h3⟩, fun f hf _ hn => ?_, fun f hf hn => ?_, fun f hf f2 hf2 hn hn2 heq => ?_, srt_put h.srt e, fun f hf => ?_, hroom, h.fp, h.fb, fun g hF => Nat.lt_of_lt_of_le (h.flt g hF) k2.grown.size⟩, k2⟩
  · rw [← h.cell]
    unfold World.cell?
    rw [same p h.lt.1 hp]
  · rw [← h3.size]
    exact ownsMap_size k1
  · rcases (mem_put h.srt e f).1 hf with rfl | ⟨hf, hfe⟩
    · rw [rep_same]
      obtain ⟨vs, hv⟩ := hrow hn
      exact ⟨vs, keep hv⟩
    · rw [rep_other hfe]
      obtain ⟨vs, hv⟩ := h.rows f hf (by rcases hx with rfl | rfl <;> simp [hfe]) hn
      exact ⟨vs, keep hv⟩
  · rcases (mem_put h.srt e f).1 hf with rfl | ⟨hf, hfe⟩
    · rw [rep_same]
      obtain ⟨vs, hv⟩ := hrow hn
      exact hv.own
    · rw [rep_other hfe]
      exact h.home f hf hn
  · have c1 := (mem_put h.srt e f).1 hf
    have c2 := (mem_put h.srt e f2).1 hf2
    rcases c1 with c1 | ⟨c1, d1⟩ <;> rcases c2 with c2 | ⟨c2, d2⟩
    · rw [c1, c2]
    · rw [c1, rep_same, rep_other d2] at heq
      exact absurd heq.symm (hap (c1 ▸ hn) f2 c2 d2 hn2)
    · rw [c2, rep_same, rep_other d1] at heq
      exact absurd heq (hap (c2 ▸ hn2) f c1 d1 hn)
    · rw [rep_other d1, rep_other d2] at heq
      exact h.apart f c1 f2 c2 hn hn2 heq
  · rcases (mem_put h.srt e f).1 hf with rfl | ⟨hf, _⟩
    · exact he
    · exact h.ok f hf
end
end Go.Proofs.Ytfeipeninmclkaa
