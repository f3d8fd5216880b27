/-
  What is proved: what the document's Tick keeps, and its two rows (who is asked for, what is kept) side by side.
  Conditions: none of its own.
-/
import Derived.Test.YtfeipeninmclkaaRcLearn
namespace Go.Proofs.Ytfeipeninmclkaa
open Go.RowKit

def keepX (now : Int) (x : Xe) : Option Xe := if goes x.e now then none else if again x.e now then some ⟨next x.e now, x.A, x.c⟩ else some x
def keptL (P : List Xe) (now : Int) (k : Nat) : List Xe := (P.take k).filterMap (keepX now)
theorem keep_map (P : List Xe) (now : Int) : (P.filterMap (keepX now)).map Xe.e = tickL (P.map Xe.e) now := by
  unfold tickL
  rw [List.map_filterMap, List.filterMap_map]
  congr 1
  funext x
  simp only [keepX, tick1, Function.comp]
  by_cases h1 : goes x.e now = true
  · rw [if_pos h1, if_pos h1]; rfl
  · rw [if_neg h1, if_neg h1]
    by_cases h2 : again x.e now = true
    · rw [if_pos h2, if_pos h2]; rfl
    · rw [if_neg h2, if_neg h2]; rfl
theorem keptL_next {P : List Xe} {now : Int} {k : Nat} {t : Xe} (h : P[k]? = some t) : keptL P now (k + 1) = keptL P now k ++ (keepX now t).toList := by
  unfold keptL
  rw [List.take_add_one, h, List.filterMap_append, Option.toList_some]
  simp only [List.filterMap_cons, List.filterMap_nil]
  cases keepX now t <;> rfl
theorem keptL_end (P : List Xe) (now : Int) : keptL P now P.length = P.filterMap (keepX now) := by unfold keptL; rw [List.take_length]
theorem keptL_len (P : List Xe) (now : Int) (k : Nat) : (keptL P now k).length ≤ P.length := by
  unfold keptL
  have h1 := List.length_filterMap_le (keepX now) (P.take k)
  rw [List.length_take] at h1
  omega
theorem keep_mem {P : List Xe} {now : Int} {y : Xe} (h : y ∈ P.filterMap (keepX now)) : ∃ x ∈ P, y = x ∨ (again x.e now = true ∧ y = ⟨next x.e now, x.A, x.c⟩) := by
  obtain ⟨x, hx, hy⟩ := List.mem_filterMap.1 h
  refine ⟨x, hx, ?_⟩
  unfold keepX at hy
  split at hy
  · cases hy
  · split at hy
    · rename_i h2
      exact .inr ⟨h2, by simpa using hy.symm⟩
    · exact .inl (by simpa using hy.symm)
theorem tick_sub (L : List En) (now : Int) : (tickL L now).map (·.ip) = (L.filter (fun e => !goes e now)).map (·.ip) := by
  induction L with
  | nil => rfl
  | cons e l ih =>
    unfold tickL at ih ⊢
    rw [List.filterMap_cons]
    by_cases h1 : goes e now = true
    · simp [tick1, h1, ih]
    · by_cases h2 : again e now = true
      · simp [tick1, h1, h2, ih, next]
      · simp [tick1, h1, h2, ih]
theorem srt_tick {L : List En} (h : Srt L) (now : Int) : Srt (tickL L now) := by
  have h1 : ((tickL L now).map (·.ip)).Pairwise (· < ·) := by
    rw [tick_sub]
    exact List.pairwise_map.2 (List.Pairwise.sublist List.filter_sublist h)
  exact List.pairwise_map.1 h1
theorem own_ne {w : World} {B B' s s' n n' : Nat} {e e' : TypeId} {v v' : Value} {xs xs' : List Value} (h : w.ownsRow B e s v n xs) (h' : w.ownsRow B' e' s' v' n' xs') (hne : e ≠ e') {g : Nat} (hg : v.ownBlock = some g) : v'.ownBlock ≠ some g := by
  intro hg'
  rcases h.2 with ⟨rfl, _⟩ | ⟨a, cap, cur, rfl, _, ha, _⟩
  · cases hg
  · rcases h'.2 with ⟨rfl, _⟩ | ⟨a', cap', cur', rfl, _, ha', _⟩
    · cases hg'
    · obtain rfl : a = g := by simpa [Value.ownBlock] using hg
      obtain rfl : a' = a := by simpa [Value.ownBlock] using hg'
      rw [ha] at ha'
      cases ha'
      exact hne rfl
theorem ip_ne : (32 : TypeId) ≠ 74 := by decide
theorem ip_cne : (30 : TypeId) ≠ 32 := by decide

/-- Behind so many entries: the two rows. -/
structure Tq (w : World) (P : List Xe) (now : Int) (ka kk : Nat) (av kv : Value) (W : World) : Prop where
  old : Below w.heap.size w W
  asks : W.ownsRow w.heap.size 32 1 av (tickA ((P.map Xe.e).take ka) now).length ((tickA ((P.map Xe.e).take ka) now).map (Value.int .u32))
  kept : W.ownsRow w.heap.size 74 11 kv (keptL P now kk).length ((keptL P now kk).flatMap Xe.cells)
section
variable {w W W' : World} {P : List Xe} {now : Int} {ka kk k : Nat} {av kv av' kv' : Value} {t x' : Xe}
theorem Tq.start (w : World) (P : List Xe) (now : Int) : Tq w P now 0 0 (.slice (some ⟨w.heap.size, 0, none⟩) 0 0) (.slice none 0 0) (w.alloc (.cells #[] 32)) :=
  ⟨(Below.refl _ w).alloc (Nat.le_refl _) _, ⟨rfl, .inr ⟨w.heap.size, 0, #[], rfl, Nat.le_refl _, heap_alloc_new w _, Nat.le_refl _, by simp [maxLen], rfl, rfl⟩⟩, World.ownsRow_nil _ _ _ _⟩
theorem Tq.below (h : Tq w P now ka kk av kv W) (hb : Below W.heap.size W W') : Tq w P now ka kk av kv W' :=
  ⟨below_to h.old hb h.old.size, owns_at h.asks (fun g hg => hb.block g (h.asks.lt g hg).2), owns_at h.kept (fun g hg => hb.block g (h.kept.lt g hg).2)⟩
theorem Tq.box (h : Tq w P now ka kk av kv W) {G : Nat} (hG : w.heap.size ≤ G) (ha : ∀ g, av.ownBlock = some g → g ≠ G) (hk : ∀ g, kv.ownBlock = some g → g ≠ G) (i : Nat) (v : Value) : Tq w P now ka kk av kv (W.setCell ⟨G, i, none⟩ v) :=
  ⟨h.old.trans ⟨rfl, rfl, rfl, by simp [World.setCell], fun k hk => Below.heap_setCell _ _ _ _ (fun e => by have e : k = G := e; omega)⟩, owns_at h.asks (fun g hg => Below.heap_setCell _ _ _ _ (ha g hg)), owns_at h.kept (fun g hg => Below.heap_setCell _ _ _ _ (hk g hg))⟩
theorem Tq.noask (h : Tq w P now k kk av kv W) (ht : P[k]? = some t) (ha : again t.e now = false) : Tq w P now (k + 1) kk av kv W := by
  have e := tickA_next (L := P.map Xe.e) (k := k) (e := t.e) now (by rw [List.getElem?_map, ht]; rfl)
  rw [ha] at e
  simp only [Bool.false_eq_true, if_false, List.append_nil] at e
  exact ⟨h.old, by rw [e]; exact h.asks, h.kept⟩
theorem Tq.ask (h : Tq w P now k kk av kv W) (ht : P[k]? = some t) (ha : again t.e now = true) {o : Obj}
    (hown : W'.ownsRow w.heap.size 32 1 av' ((tickA ((P.map Xe.e).take k) now).length + 1) ((tickA ((P.map Xe.e).take k) now).map (Value.int .u32) ++ [.int .u32 t.e.ip])) (hg : (W.alloc o).grownBy W' av.ownBlock) : Tq w P now (k + 1) kk av' kv W' := by
  have e := tickA_next (L := P.map Xe.e) (k := k) (e := t.e) now (by rw [List.getElem?_map, ht]; rfl)
  rw [ha] at e
  simp only [if_true] at e
  have h1 := h.below ((Below.refl _ W).alloc (Nat.le_refl _) o)
  exact ⟨h1.old.grown hg h1.old.size (ownBlock_ge h1.asks), by rw [e, List.length_append, List.map_append]; exact hown, owns_at h1.kept (fun g hk => hg.block g (h1.kept.lt g hk).2 (fun e2 => own_ne h1.asks h1.kept ip_ne e2.symm hk))⟩
theorem Tq.gone (h : Tq w P now ka k av kv W) (ht : P[k]? = some t) (hg : goes t.e now = true) : Tq w P now ka (k + 1) av kv W := by
  have e : keptL P now (k + 1) = keptL P now k := by
    rw [keptL_next ht]
    unfold keepX
    rw [if_pos hg]
    simp
  exact ⟨h.old, h.asks, by rw [e]; exact h.kept⟩
theorem Tq.app (h : Tq w P now ka k av kv W) (ht : P[k]? = some t) (hx : keepX now t = some x') {o : Obj}
    (hown : W'.ownsRow w.heap.size 74 11 kv' (keptL P now k ++ [x']).length ((keptL P now k ++ [x']).flatMap Xe.cells)) (hg : (W.alloc o).grownBy W' kv.ownBlock) : Tq w P now ka (k + 1) av kv' W' := by
  have e : keptL P now (k + 1) = keptL P now k ++ [x'] := by
    rw [keptL_next ht, hx]
    rfl
  have h1 := h.below ((Below.refl _ W).alloc (Nat.le_refl _) o)
  exact ⟨h1.old.grown hg h1.old.size (ownBlock_ge h1.kept), owns_at h1.asks (fun g hk => hg.block g (h1.asks.lt g hk).2 (fun e2 => own_ne h1.asks h1.kept ip_ne hk e2.symm)), by rw [e]; exact hown⟩
/-- The append of one entry to what is kept. -/
theorem Tq.run (h : Tq w P now ka k av kv W) (hP : P.length ≤ 32) (x : Xe) : ∃ v' W', (Builtin.append_ #[28, 28] 28 #[kv, .slice (some ⟨W.heap.size, 0, none⟩) 1 1]).run Try.prog (W.alloc (.cells x.arr 74)) = .ok v' W' ∧
    W'.ownsRow w.heap.size 74 11 v' (keptL P now k ++ [x]).length ((keptL P now k ++ [x]).flatMap Xe.cells) ∧ (W.alloc (.cells x.arr 74)).grownBy W' kv.ownBlock := by
  have hl := keptL_len P now k
  obtain ⟨v', W', h1, h2, h3, _⟩ := xappend_own (h.kept.alloc (.cells x.arr 74)) [x] (.slice (some ⟨W.heap.size, 0, none⟩) 1 1) (RdX.one (XAt.new W x)) (by simp; omega) (by have := h.old.size; simp; omega)
  exact ⟨v', W', h1, h2, h3⟩
/-- What is kept is the cache's new row. -/
theorem Tq.done {p : Nat} {F : Nat → Prop} {v : Value} (h : Tq w P now P.length P.length av kv W) (hR : Rc w p F v P) (hn : U64 now) :
    IpsAt (W.setCell ⟨p, 0, none⟩ kv) av (tickA (P.map Xe.e) now) ∧ (P.filterMap (keepX now)).map Xe.e = tickL (P.map Xe.e) now ∧ Rc (W.setCell ⟨p, 0, none⟩ kv) p (Nw w W F) kv (P.filterMap (keepX now)) ∧ Did w (W.setCell ⟨p, 0, none⟩ kv) F (Nw w W F) := by
  have hk := h.kept
  rw [keptL_end] at hk
  have ha := h.asks
  rw [← List.length_map (f := Xe.e), List.take_length] at ha
  have hm := keep_map P now
  have hst := hR.stored h.old hk (fun y hy => by
      obtain ⟨x, hx, e⟩ := keep_mem hy
      rcases e with rfl | ⟨_, rfl⟩
      · exact hR.strs _ hx
      · exact hR.strs x hx) (by rw [hm]; exact srt_tick hR.srt now) (fun y hy => by
      obtain ⟨x, hx, e⟩ := keep_mem hy
      rcases e with rfl | ⟨h2, rfl⟩
      · exact hR.ok _ hx
      · exact next_ok (hR.ok x hx) hn h2) (Nat.le_trans (List.length_filterMap_le _ _) hR.few)
  refine ⟨IpsAt.of (B := w.heap.size) (owns_at ha (fun g hg => Below.heap_setCell _ _ _ _ ?_)), hm, hst.1, hst.2⟩
  have := (ha.lt g hg).1
  have := hR.lt
  intro e
  have e : g = p := e
  omega
end
end Go.Proofs.Ytfeipeninmclkaa
