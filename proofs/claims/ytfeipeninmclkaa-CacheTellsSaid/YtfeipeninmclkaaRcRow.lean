/-
  What is proved: the document's cache in memory: a row of entries (eleven cells each) behind a pointer, each with a row of texts; append of entries to a row of one's own; the cell stored anew.
  Conditions: none of its own.
-/
import Derived.Test.YtfeipeninmclkaaCaTwo
import Derived.Test.YtfeipeninmclkaaRgTail
import Derived.Deep.MidRow
import Derived.Deep.Upon
import Derived.Deep.RegionHeldLaw
import Derived.Maps.AppendAt
namespace Go.Proofs.Ytfeipeninmclkaa
open Go.RowKit

/-- An entry of the document's row: what it is, and where its texts lie. -/
structure Xe where
  e : En
  A : Option Addr
  c : Nat
def Xe.cells (x : Xe) : List Value := [.int .u32 x.e.ip, .bool x.e.kn, .int .u8 x.e.m.a, .int .u8 x.e.m.b, .int .u8 x.e.m.c, .int .u8 x.e.m.d, .int .u8 x.e.m.e, .int .u8 x.e.m.f, .int .u64 x.e.t, .int .i64 x.e.tr, .slice x.A x.e.pk.length x.c]
def Xe.arr (x : Xe) : Array Value := #[.int .u32 x.e.ip, .bool x.e.kn, .int .u8 x.e.m.a, .int .u8 x.e.m.b, .int .u8 x.e.m.c, .int .u8 x.e.m.d, .int .u8 x.e.m.e, .int .u8 x.e.m.f, .int .u64 x.e.t, .int .i64 x.e.tr, .slice x.A x.e.pk.length x.c]
def Xe.val (x : Xe) : Value := .agg x.arr
def Xe.obj (x : Xe) : Obj := .cells x.arr 74
def Xe.zero : Xe := ⟨⟨0, false, Mc.zero, 0, 0, []⟩, none, 0⟩
theorem x_info : (Try.prog.info? 74).map (fun i => (i.zero, i.size, i.bytes)) = some (some Xe.zero.val, 11, 56) := by kernel_rfl
theorem xSize : (Try.prog.info? 74).map (·.size) = some 11 := by kernel_rfl
theorem xeq_one (x : Xe) : x.arr.all (·.oneCell') = true := by simp [Xe.arr, Value.oneCell']

/-- An entry's cells, from an offset on. -/
structure XAt (w : World) (g o : Nat) (x : Xe) : Prop where
  c0 : w.cell? ⟨g, o, none⟩ = some (.int .u32 x.e.ip)
  c1 : w.cell? ⟨g, o + 1, none⟩ = some (.bool x.e.kn)
  c2 : w.cell? ⟨g, o + 2, none⟩ = some (.int .u8 x.e.m.a)
  c3 : w.cell? ⟨g, o + 3, none⟩ = some (.int .u8 x.e.m.b)
  c4 : w.cell? ⟨g, o + 4, none⟩ = some (.int .u8 x.e.m.c)
  c5 : w.cell? ⟨g, o + 5, none⟩ = some (.int .u8 x.e.m.d)
  c6 : w.cell? ⟨g, o + 6, none⟩ = some (.int .u8 x.e.m.e)
  c7 : w.cell? ⟨g, o + 7, none⟩ = some (.int .u8 x.e.m.f)
  c8 : w.cell? ⟨g, o + 8, none⟩ = some (.int .u64 x.e.t)
  c9 : w.cell? ⟨g, o + 9, none⟩ = some (.int .i64 x.e.tr)
  c10 : w.cell? ⟨g, o + 10, none⟩ = some (.slice x.A x.e.pk.length x.c)
section
variable {w w' : World} {g o : Nat} {x : Xe}
theorem XAt.of (h : w.rangeAt g o x.cells) : XAt w g o x :=
  ⟨h 0 _ rfl, h 1 _ rfl, h 2 _ rfl, h 3 _ rfl, h 4 _ rfl, h 5 _ rfl, h 6 _ rfl, h 7 _ rfl, h 8 _ rfl, h 9 _ rfl, h 10 _ rfl⟩
theorem XAt.range (h : XAt w g o x) : w.rangeAt g o x.cells := fun j v hv => by
  have hj : j < 11 := (List.getElem?_eq_some_iff.1 hv).1
  rcases (show j = 0 ∨ j = 1 ∨ j = 2 ∨ j = 3 ∨ j = 4 ∨ j = 5 ∨ j = 6 ∨ j = 7 ∨ j = 8 ∨ j = 9 ∨ j = 10 by omega) with rfl | rfl | rfl | rfl | rfl | rfl | rfl | rfl | rfl | rfl | rfl <;> cases hv
  · exact h.c0
  · exact h.c1
  · exact h.c2
  · exact h.c3
  · exact h.c4
  · exact h.c5
  · exact h.c6
  · exact h.c7
  · exact h.c8
  · exact h.c9
  · exact h.c10
theorem XAt.blk (h : XAt w g o x) (e : w'.heap[g]? = w.heap[g]?) : XAt w' g o x := XAt.of fun j v hv => by
  have := h.range j v hv
  unfold World.cell? at *
  rw [e]
  exact this
theorem XAt.lt (h : XAt w g o x) : g < w.heap.size := World.block_lt_of_cell? w _ h.c0
theorem XAt.below (h : XAt w g o x) (hb : Below w.heap.size w w') : XAt w' g o x := h.blk (hb.block g h.lt)
theorem XAt.drewN (h : XAt w g o x) (n : Nat) : XAt (w.drewN n) g o x := h.blk rfl
theorem XAt.of_heap (h : w.heap[g]? = some x.obj) : XAt w g 0 x := XAt.of fun j v hv => by
  unfold Xe.obj at h
  simp only [World.cell?, h, Nat.zero_add]
  rw [← Array.getElem?_toList]
  exact hv
theorem XAt.new (w : World) (x : Xe) : XAt (w.alloc x.obj) w.heap.size 0 x := XAt.of_heap (heap_alloc_new w _)
end

theorem xflat_get : ∀ (P : List Xe) (k j : Nat) (x : Xe), P[k]? = some x → j < 11 → (P.flatMap Xe.cells)[k * 11 + j]? = x.cells[j]?
  | [], _, _, _, h, _ => by simp at h
  | y :: l, 0, j, x, h, hj => by
    obtain rfl : y = x := by simpa using h
    rw [List.flatMap_cons, List.getElem?_append_left (by show 0 * 11 + j < 11; omega)]
    simp
  | y :: l, k + 1, j, x, h, hj => by
    rw [List.flatMap_cons, List.getElem?_append_right (by show 11 ≤ (k + 1) * 11 + j; omega)]
    have e : (k + 1) * 11 + j - y.cells.length = k * 11 + j := by show (k + 1) * 11 + j - 11 = _; omega
    rw [e]
    exact xflat_get l k j x (by simpa using h) hj
theorem xflat_len (P : List Xe) : (P.flatMap Xe.cells).length = P.length * 11 := by
  induction P with
  | nil => rfl
  | cons x l ih => rw [List.flatMap_cons, List.length_append, ih]; simp [Xe.cells]; omega
theorem xflat_one {P : List Xe} : ∀ u ∈ P.flatMap Xe.cells, u.oneCell' = true := by
  intro u hu
  obtain ⟨r, _, h⟩ := List.mem_flatMap.1 hu
  simp only [Xe.cells, List.mem_cons, List.not_mem_nil, or_false] at h
  rcases h with rfl | rfl | rfl | rfl | rfl | rfl | rfl | rfl | rfl | rfl | rfl <;> rfl

/-- Entries one behind the other. -/
def RowX (w : World) (A : Option Addr) (P : List Xe) : Prop := ∀ k x, P[k]? = some x → ∃ g o, A = some ⟨g, o, none⟩ ∧ XAt w g (o + k * 11) x
theorem RowX.below {w w' : World} {A : Option Addr} {P : List Xe} (h : RowX w A P) (hb : Below w.heap.size w w') : RowX w' A P := fun k x hk => by
  obtain ⟨g, o, e, hx⟩ := h k x hk
  exact ⟨g, o, e, hx.below hb⟩
/-- A slice's address and capacity. -/
def Fm (A : Option Addr) (c : Nat) : Prop := (A = none ∧ c = 0) ∨ ∃ g o, A = some ⟨g, o, none⟩
theorem rowx_of_owns {w : World} {B : Nat} {v : Value} {P : List Xe} (h : w.ownsRow B 74 11 v P.length (P.flatMap Xe.cells)) :
    ∃ A c, v = .slice A P.length c ∧ P.length ≤ c ∧ c ≤ 9223372036854775807 ∧ RowX w A P ∧ Fm A c ∧ ∀ a, A = some a → B ≤ a.block ∧ ∃ cur, w.heap[a.block]? = some (.cells cur 74 (0, 0)) := by
  rcases h.2 with ⟨h1, h2⟩ | ⟨g, cap, cur, hv, hb, hg, h1, h2, h3, h4⟩
  · have hL : P = [] := List.length_eq_zero_iff.1 h2
    subst hL
    exact ⟨none, 0, h1, Nat.le_refl _, by omega, (fun k r hk => by simp at hk), .inl ⟨rfl, rfl⟩, fun a ha => by cases ha⟩
  · refine ⟨_, _, hv, h1, by unfold maxLen at h2; omega, fun k x hk => ⟨g, 0, rfl, ?_⟩, .inr ⟨g, 0, rfl⟩, fun a ha => by cases ha; exact ⟨hb, _, hg⟩⟩
    have hlt := (List.getElem?_eq_some_iff.1 hk).1
    refine XAt.of fun j v hv => ?_
    have hj : j < 11 := (List.getElem?_eq_some_iff.1 hv).1
    have e := xflat_get P k j x hk hj
    rw [← h4, List.getElem?_take_of_lt (by omega), Array.getElem?_toList, hv] at e
    simp only [World.cell?, hg, Nat.zero_add]
    exact e

/-- The texts of an entry, in a row of their own. -/
def SRow (w : World) (F : Nat → Prop) (A : Option Addr) (c : Nat) (pk : List (List UInt8)) : Prop :=
  w.ownsRow 0 9 1 (.slice A pk.length c) pk.length (pk.map fun b => Value.string (txt b)) ∧ ∀ a, A = some a → F a.block
section
variable {w w' : World} {F F' : Nat → Prop} {A : Option Addr} {c : Nat} {pk : List (List UInt8)}
theorem SRow.nil (w : World) (F : Nat → Prop) : SRow w F none 0 [] := ⟨World.ownsRow_nil _ _ _ _, fun a h => by cases h⟩
theorem SRow.blk (h : SRow w F A c pk) {a : Addr} (ha : A = some a) : ∃ cur, w.heap[a.block]? = some (.cells cur 9 (0, 0)) := by
  subst ha
  rcases h.1.2 with ⟨h1, _⟩ | ⟨g, cap, cur, hv, _, hg, _⟩
  · cases h1
  · cases hv
    exact ⟨cur, hg⟩
theorem SRow.at (h : SRow w F A c pk) (hk : ∀ a, A = some a → w'.heap[a.block]? = w.heap[a.block]?) : SRow w' F A c pk :=
  ⟨owns_at h.1 (fun g hg => by
    cases A with
    | none => cases hg
    | some a =>
      obtain rfl : a.block = g := by simpa [Value.ownBlock] using hg
      exact hk a rfl), h.2⟩
theorem SRow.wide (h : SRow w F A c pk) (hF : ∀ k, F k → F' k) : SRow w F' A c pk := ⟨h.1, fun a ha => hF _ (h.2 a ha)⟩
theorem SRow.below (h : SRow w F A c pk) (hb : Below w.heap.size w w') : SRow w' F A c pk := h.at fun a ha => by
  obtain ⟨cur, hc⟩ := h.blk ha
  exact hb.block _ (Array.getElem?_eq_some_iff.1 hc).1
/-- A block of another kind is another block. -/
theorem SRow.ne (h : SRow w F A c pk) {a : Addr} (ha : A = some a) {g : Nat} {cs : Array Value} {t : TypeId} {fr : Nat × Nat} (hg : w.heap[g]? = some (.cells cs t fr)) (ht : t ≠ 9) : a.block ≠ g := by
  rintro rfl
  obtain ⟨cur, hc⟩ := h.blk ha
  rw [hc] at hg
  cases hg
  exact ht rfl
end

/-- The document's cache: its cell holds a slice of the entries, a row of its own. -/
structure Rc (w : World) (p : Nat) (F : Nat → Prop) (v : Value) (P : List Xe) : Prop where
  blk : w.heap[p]? = some (.cells #[v] 30)
  row : ∃ A c, v = .slice A P.length c ∧ P.length ≤ c ∧ c ≤ 9223372036854775807 ∧ RowX w A P ∧ Fm A c ∧ ∀ a, A = some a → F a.block ∧ ∃ cur, w.heap[a.block]? = some (.cells cur 74 (0, 0))
  strs : ∀ x ∈ P, SRow w F x.A x.c x.e.pk
  srt : Srt (P.map Xe.e)
  ok : ∀ x ∈ P, x.e.Ok
  few : P.length ≤ 32
  fp : F p
  flt : ∀ k, F k → k < w.heap.size
/-- The blocks, and all new ones. -/
def Nw (w w' : World) (F : Nat → Prop) : Nat → Prop := fun k => F k ∨ w.heap.size ≤ k ∧ k < w'.heap.size
section
variable {w w' W : World} {p : Nat} {F F' : Nat → Prop} {v v' : Value} {P P' : List Xe}
theorem Rc.cell (h : Rc w p F v P) : w.cell? ⟨p, 0, none⟩ = some v := by simp [World.cell?, h.blk]
theorem Rc.thaw (h : Rc w p F v P) : w.frozen? ⟨p, 0, none⟩ = false := by simp [World.frozen?, h.blk]
theorem Rc.lt (h : Rc w p F v P) : p < w.heap.size := h.flt p h.fp
theorem Rc.open (h : Rc w p F v P) : ∃ A c, v = .slice A P.length c ∧ P.length ≤ c ∧ c ≤ 9223372036854775807 ∧ RowX w A P ∧ Fm A c := by
  obtain ⟨A, c, h1, h2, h3, h4, h5, _⟩ := h.row
  exact ⟨A, c, h1, h2, h3, h4, h5⟩
theorem Rc.at (h : Rc w p F v P) (hk : ∀ k, F k → w'.heap[k]? = w.heap[k]?) (hs : w.heap.size ≤ w'.heap.size) : Rc w' p F v P := by
  obtain ⟨A, c, rfl, h1, h2, h3, h4, h5⟩ := h.row
  refine ⟨(hk p h.fp).trans h.blk, ⟨A, c, rfl, h1, h2, fun k x hx => ?_, h4, fun a ha => ?_⟩, fun x hx => (h.strs x hx).at (fun a ha => hk _ ((h.strs x hx).2 a ha)), h.srt, h.ok, h.few, h.fp, fun k hk => Nat.lt_of_lt_of_le (h.flt k hk) hs⟩
  · obtain ⟨g, o, rfl, hx⟩ := h3 k x hx
    exact ⟨g, o, rfl, hx.blk (hk g (h5 _ rfl).1)⟩
  · obtain ⟨k1, cur, k2⟩ := h5 a ha
    exact ⟨k1, cur, (hk _ k1).trans k2⟩
theorem Rc.below (h : Rc w p F v P) (hb : Below w.heap.size w w') : Rc w' p F v P := h.at (fun k hk => hb.block k (h.flt k hk)) hb.size
theorem Rc.wide (h : Rc w p F v P) (hF : ∀ k, F k → F' k) (hl : ∀ k, F' k → k < w.heap.size) : Rc w p F' v P := by
  obtain ⟨A, c, rfl, h1, h2, h3, h4, h5⟩ := h.row
  exact ⟨h.blk, ⟨A, c, rfl, h1, h2, h3, h4, fun a ha => ⟨hF _ (h5 a ha).1, (h5 a ha).2⟩⟩, fun x hx => (h.strs x hx).wide hF, h.srt, h.ok, h.few, hF p h.fp, hl⟩
theorem Nw.did (hb : Below w.heap.size w w') : Did w w' F (Nw w w' F) := ⟨hb.os, hb.tape, hb.output, hb.size, fun k hk _ => hb.block k hk, fun k hk => hk.imp id And.left⟩
theorem Rc.nw (h : Rc w p F v P) (hb : Below w.heap.size w w') : Rc w' p (Nw w w' F) v P :=
  (h.below hb).wide (fun _ hk => .inl hk) (fun k hk => hk.elim (fun hk => Nat.lt_of_lt_of_le (h.flt k hk) hb.size) And.right)
theorem ecache_ne : (30 : TypeId) ≠ 9 := by decide
theorem eentry_ne : (74 : TypeId) ≠ 9 := by decide
/-- c.L = a row of one's own. -/
theorem Rc.stored (h : Rc w p F v P) (hb : Below w.heap.size w W) (hr : W.ownsRow w.heap.size 74 11 v' P'.length (P'.flatMap Xe.cells)) (hst : ∀ x ∈ P', SRow w F x.A x.c x.e.pk) (hs : Srt (P'.map Xe.e)) (hok : ∀ x ∈ P', x.e.Ok) (h32 : P'.length ≤ 32) :
    Rc (W.setCell ⟨p, 0, none⟩ v') p (Nw w W F) v' P' ∧ Did w (W.setCell ⟨p, 0, none⟩ v') F (Nw w W F) := by
  have hp := (hb.block p h.lt).trans h.blk
  have hpl := h.lt
  have hz : (W.setCell ⟨p, 0, none⟩ v').heap.size = W.heap.size := by simp [World.setCell]
  have he : ∀ k, k ≠ p → (W.setCell ⟨p, 0, none⟩ v').heap[k]? = W.heap[k]? := fun k hk => Below.heap_setCell _ _ _ _ hk
  obtain ⟨A, c, rfl, h1, h2, h3, h4, h5⟩ := rowx_of_owns hr
  refine ⟨⟨by simp [World.setCell, Array.getElem?_modify, hp], ⟨A, c, rfl, h1, h2, fun k x hx => ?_, h4, fun a ha => ?_⟩, fun x hx => ?_, hs, hok, h32, .inl h.fp, fun k hk => ?_⟩, ⟨hb.os, hb.tape, hb.output, by rw [hz]; exact hb.size, fun k hk hF => ?_, fun k hk => hk.imp id And.left⟩⟩
  · obtain ⟨g, o, rfl, hx⟩ := h3 k x hx
    have := (h5 _ rfl).1
    exact ⟨g, o, rfl, hx.blk (he g (by intro e; subst e; exact absurd this (Nat.not_le.2 hpl)))⟩
  · obtain ⟨k1, cur, k2⟩ := h5 a ha
    exact ⟨.inr ⟨k1, (Array.getElem?_eq_some_iff.1 k2).1⟩, cur, (he _ (by omega)).trans k2⟩
  · have h0 := hst x hx
    refine ((h0.below hb).wide (F' := Nw w W F) (fun k hk => .inl hk)).at fun a ha => he _ (h0.ne ha h.blk ecache_ne)
  · rw [hz]
    exact hk.elim (fun hk => Nat.lt_of_lt_of_le (h.flt k hk) hb.size) And.right
  · exact (he k (fun e => hF (e ▸ h.fp))).trans (hb.block k hk)
end

/-! ### append of entries -/
theorem ownBlock_ge {w : World} {base : Nat} {e : TypeId} {size n : Nat} {v : Value} {xs : List Value} (h : w.ownsRow base e size v n xs) : ∀ j, v.ownBlock = some j → base ≤ j := by
  rcases h.2 with ⟨rfl, _⟩ | ⟨g, cap, cur, rfl, hb, _⟩
  · intro j hj
    cases hj
  · intro j hj
    obtain rfl : g = j := by simpa [Value.ownBlock] using hj
    exact hb
/-- A slice that holds these entries. -/
def RdX (w : World) (u : Value) (xs : List Xe) : Prop := ∃ A c, u = .slice A xs.length c ∧ RowX w A xs
theorem RdX.below {w w' : World} {u : Value} {xs : List Xe} (h : RdX w u xs) (hb : Below w.heap.size w w') : RdX w' u xs := by
  obtain ⟨A, c, e, h1⟩ := h
  exact ⟨A, c, e, h1.below hb⟩
theorem RdX.one {W : World} {k : Nat} {x : Xe} (h : XAt W k 0 x) : RdX W (.slice (some ⟨k, 0, none⟩) 1 1) [x] :=
  ⟨_, 1, rfl, fun j t hj => by
    cases j with
    | zero =>
      obtain rfl : x = t := by simpa using hj
      exact ⟨k, 0, rfl, h⟩
    | succ j => simp at hj⟩
theorem RdX.front {W : World} {A : Option Addr} {P : List Xe} (h : RowX W A P) {k : Nat} (hk : k ≤ P.length) (c : Nat) : RdX W (.slice A k c) (P.take k) :=
  ⟨A, c, by rw [List.length_take, Nat.min_eq_left hk], fun j t hj => by
    rw [List.getElem?_take] at hj
    split at hj
    · exact h j t hj
    · cases hj⟩
theorem RdX.behind {W : World} {g o : Nat} {P : List Xe} (h : RowX W (some ⟨g, o, none⟩) P) {k : Nat} (c : Nat) {A : Option Addr} (hA : k < P.length → A = some ⟨g, o + k * 11, none⟩) : RdX W (.slice A (P.length - k) c) (P.drop k) :=
  ⟨A, c, by rw [List.length_drop], fun j t hj => by
    rw [List.getElem?_drop] at hj
    obtain ⟨g', o', e, hx⟩ := h (k + j) t hj
    cases e
    have hlt := (List.getElem?_eq_some_iff.1 hj).1
    have e : o + k * 11 + j * 11 = o + (k + j) * 11 := by omega
    exact ⟨g, o + k * 11, hA (by omega), by rw [e]; exact hx⟩⟩

theorem xappend_own {w : World} {base : Nat} {v : Value} {cs : List Xe} (ho : w.ownsRow base 74 11 v cs.length (cs.flatMap Xe.cells)) (xs : List Xe) (u : Value) (hx : RdX w u xs) (hL : cs.length + xs.length ≤ 200) (hb : base ≤ w.heap.size) :
    ∃ v' w1, (Builtin.append_ #[28, 28] 28 #[v, u]).run Try.prog w = .ok v' w1 ∧ w1.ownsRow base 74 11 v' (cs ++ xs).length ((cs ++ xs).flatMap Xe.cells) ∧ w.grownBy w1 v.ownBlock ∧ (v'.ownBlock = v.ownBlock ∨ v'.ownBlock = some w.heap.size) := by
  obtain ⟨A, c, rfl, hcell⟩ := hx
  obtain ⟨i0, hi, hz0, hz1, hz2⟩ := info_parts x_info
  cases A with
  | none =>
    have hx0 : xs = [] := by
      cases xs with
      | nil => rfl
      | cons y l =>
        obtain ⟨g, o, e, _⟩ := hcell 0 y rfl
        cases e
    subst hx0
    have hrun : (Builtin.append_ #[28, 28] 28 #[v, .slice none 0 c]).run Try.prog w = .ok v w := by
      rcases ho.2 with ⟨rfl, hn⟩ | ⟨g, cap, cur, rfl, _, _, hnc, _⟩
      · simp [Builtin.append_, run_underlying Try.underlying28, sizeOf, typeInfo, hi, Builtin.lenOf, Builtin.firstCells]
      · simp [Builtin.append_, run_underlying Try.underlying28, sizeOf, typeInfo, hi, Builtin.lenOf, Builtin.firstCells, hnc, storeCells]
    exact ⟨v, w, hrun, by rw [List.append_nil]; exact ho, World.grownBy.refl w _, .inl rfl⟩
  | some ad =>
    have hcl : ∀ j u, (xs.flatMap Xe.cells)[j]? = some u → w.cell? (ad.add j) = some u := by
      intro j u hu
      have hj : j < xs.length * 11 := by
        have := (List.getElem?_eq_some_iff.1 hu).1
        rwa [xflat_len] at this
      have hk : j / 11 < xs.length := by omega
      obtain ⟨t, ht⟩ : ∃ t, xs[j / 11]? = some t := ⟨xs[j / 11], List.getElem?_eq_getElem hk⟩
      obtain ⟨g, o, e, hx⟩ := hcell (j / 11) t ht
      obtain rfl := Option.some.inj e
      have e2 : j = j / 11 * 11 + j % 11 := by omega
      have hm : j % 11 < 11 := by omega
      have hf := xflat_get xs (j / 11) (j % 11) t ht hm
      rw [← e2, hu] at hf
      have := hx.range (j % 11) u hf.symm
      rw [Addr.add_lit]
      have e3 : o + j = o + j / 11 * 11 + j % 11 := by omega
      rw [e3]
      exact this
    obtain ⟨v', w1, hrun, ho1, hg, _, hat⟩ := run_append_own_at (P := Try.prog) w base 28 28 74 i0 Xe.zero.val 11 56 Try.underlying28 hi hz0 hz1 hz2 rfl (by omega) v cs.length (cs.flatMap Xe.cells) ho ad xs.length c (xs.flatMap Xe.cells) (xflat_len xs)
      hcl xflat_one (by simp only [maxLen]; omega) (by omega) hb
    exact ⟨v', w1, hrun, by rw [List.length_append, List.flatMap_append]; exact ho1, hg, hat⟩

theorem xstep_append_eq {P : Program} {ops : Array Oper} {o : Oper} {a : Act} {w : World} {K : Act → World → Prop} {Q : Exit → Act → World → Prop} {E : Prop} (hgd : o.guard = none) (s x : Operand) (t : TypeId)
    (ho : o.op = .call { callee := .builtin .append, args := #[s, x], argTypes := #[t, t] }) (v1 v2 : Value) (hs : a.eval s = v1) (hx : a.eval x = v2) (v' : Value) (w' : World)
    (hrun : (Builtin.append_ #[t, t] o.type #[v1, v2]).run P w = .ok v' w') (h : K (a.put o.dst v') w') :
    if Region.wanted o (yielded ops a.tmps) = true then Oper.wp P o a w K Q else E := by
  have hw : Region.wanted o (yielded ops a.tmps) = true := by simp [Region.wanted, hgd]
  rw [if_pos hw]
  unfold Oper.wp execOp
  simp only [ho, resolve, invoke, builtin, Sem.run_bind, Sem.run_pure, Result.andThen_ok, List.map_toArray, List.map_cons, List.map_nil, hs, hx, hrun]
  exact h

/-- A row of entries of one's own, and (where it lies already) the box of one entry, beside it. -/
structure Xk (w W : World) (g c : Nat) (cs : List Xe) (kx : Option Nat) (x : Xe) : Prop where
  old : Below w.heap.size w W
  row : W.ownsRow w.heap.size 74 11 (.slice (some ⟨g, 0, none⟩) cs.length c) cs.length (cs.flatMap Xe.cells)
  x : ∀ k, kx = some k → XAt W k 0 x ∧ k ≠ g
section
variable {w W W' : World} {g c : Nat} {cs : List Xe} {kx : Option Nat} {x : Xe}
theorem xempty_owns (W : World) (B : Nat) (h : B ≤ W.heap.size) : (W.alloc (.cells #[] 74)).ownsRow B 74 11 (.slice (some ⟨W.heap.size, 0, none⟩) 0 0) 0 ([].flatMap Xe.cells) :=
  ⟨rfl, .inr ⟨W.heap.size, 0, #[], rfl, h, heap_alloc_new W _, Nat.le_refl _, by simp [maxLen], rfl, rfl⟩⟩
theorem Xk.first (h : Below w.heap.size w W) (x : Xe) : Xk w (W.alloc (.cells #[] 74)) W.heap.size 0 [] none x :=
  ⟨h.alloc h.size _, xempty_owns W _ h.size, fun _ e => by cases e⟩
theorem Xk.lt (h : Xk w W g c cs kx x) : g < W.heap.size := by
  rcases h.row.2 with ⟨e, _⟩ | ⟨g', cap, cur, e, _, hg, _⟩
  · cases e
  · cases e
    exact (Array.getElem?_eq_some_iff.1 hg).1
theorem Xk.below (h : Xk w W g c cs kx x) (hb : Below W.heap.size W W') : Xk w W' g c cs kx x :=
  ⟨below_to h.old hb h.old.size, h.row.kept (row := none) ⟨hb.os, hb.tape, hb.output, hb.size, fun i hi _ => hb.block i hi⟩ (by simp [Value.ownBlock]), fun k e => ⟨(h.x k e).1.below hb, (h.x k e).2⟩⟩
theorem Xk.alloc (h : Xk w W g c cs none x) : Xk w (W.alloc x.obj) g c cs (some W.heap.size) x := by
  have hl := h.lt
  have hb : Below W.heap.size W (W.alloc x.obj) := (Below.refl _ _).alloc (Nat.le_refl _) _
  exact ⟨(h.below hb).old, (h.below hb).row, fun k e => by cases e; exact ⟨XAt.new W x, by omega⟩⟩
theorem Xk.firstX (h : Below w.heap.size w W) (x : Xe) : Xk w ((W.alloc x.obj).alloc (.cells #[] 74)) (W.heap.size + 1) 0 [] (some W.heap.size) x := by
  have h1 := Xk.first (below_al h x.obj) x
  rw [World.size_alloc] at h1
  exact ⟨h1.old, h1.row, fun k e => by cases e; exact ⟨(XAt.new W x).below ((Below.refl _ _).alloc (Nat.le_refl _) _), by omega⟩⟩
theorem step_append_xk {ops : Array Oper} {o : Oper} {a : Act} {K : Act → World → Prop} {Q : Exit → Act → World → Prop} {E : Prop} (hgd : o.guard = none) (s y : Operand)
    (ho : o.op = .call { callee := .builtin .append, args := #[s, y], argTypes := #[28, 28] }) (hty : o.type = 28) (g c : Nat) (cs xs : List Xe) (u : Value) (n m : Nat) (hs : a.eval s = .slice (some ⟨g, 0, none⟩) n c) (hn : n = cs.length) (hx : a.eval y = u)
    (h : Xk w W g c cs kx x ∧ RdX W u xs) (hL : cs.length + xs.length ≤ 200) (hm : m = (cs ++ xs).length) (d : Nat) (hd : o.dst = some d)
    (hK : ∀ g' c' W1, Xk w W1 g' c' (cs ++ xs) kx x → K (a.put (some d) (.slice (some ⟨g', 0, none⟩) m c')) W1) :
    if Region.wanted o (yielded ops a.tmps) = true then Oper.wp Try.prog o a W K Q else E := by
  subst hn hm
  obtain ⟨v', W1, hrun, ho1, hg, hat⟩ := xappend_own h.1.row xs u h.2 hL h.1.old.size
  rcases ho1.2 with ⟨e, _⟩ | ⟨g', c', cur', e, _, k1, _⟩
  · subst e
    rcases hat with h | h <;> simp [Value.ownBlock] at h
  · subst e
    have hgg : g' = g ∨ g' = W.heap.size := by
      rcases hat with h' | h'
      · exact .inl (by simpa [Value.ownBlock] using h')
      · exact .inr (by simpa [Value.ownBlock] using h')
    refine xstep_append_eq hgd s y 28 ho _ _ hs hx _ W1 (by rw [hty]; exact hrun) ?_
    rw [hd]
    refine hK g' c' W1 ⟨h.1.old.grown hg h.1.old.size (ownBlock_ge h.1.row), ho1, fun k e => ?_⟩
    obtain ⟨h1, h2⟩ := h.1.x k e
    have hlt := h1.lt
    refine ⟨h1.blk (hg.block k hlt (fun e => h2 (by simpa [Value.ownBlock] using e))), ?_⟩
    rcases hgg with e | e
    · rw [e]; exact h2
    · rw [e]; exact Nat.ne_of_lt hlt
end
end Go.Proofs.Ytfeipeninmclkaa
