/-
  What is proved: append of routes to a row of one's own, as a step of a region that draws.
  Conditions: none of its own.
-/
import Derived.Test.YtimpellpfnmicaaRfAdd
import Derived.Deep.RegionHeldLaw
import Derived.Maps.AppendAt
namespace Go.Proofs.Ytimpellpfnmicaa
open Go.RowKit

theorem below_drew (w : World) : Below w.heap.size w w.drew := below_dN (Below.refl _ w) 1
theorem rr_info : (Try.prog.info? 36).map (fun i => (i.zero, i.size, i.bytes)) = some (some Rt.zero.val, 4, 32) := by kernel_rfl
/-- A slice that holds these routes. -/
def RdR (w : World) (u : Value) (xs : List Rt) : Prop := ∃ A c, u = .slice A xs.length c ∧ RtsIn w A xs
theorem RdR.below {w w' : World} {u : Value} {xs : List Rt} (h : RdR w u xs) (hb : Below w.heap.size w w') : RdR w' u xs := by
  obtain ⟨A, c, e, h1⟩ := h
  exact ⟨A, c, e, h1.below hb⟩
theorem flat_len (L : List Rt) : (L.flatMap encRt').length = L.length * 4 := by
  induction L with
  | nil => rfl
  | cons x l ih => rw [List.flatMap_cons, List.length_append, ih]; simp [encRt']; omega
theorem flat_one {L : List Rt} : ∀ u ∈ L.flatMap encRt', u.oneCell' = true := by
  intro u hu
  obtain ⟨r, _, h⟩ := List.mem_flatMap.1 hu
  simp only [encRt', List.mem_cons, List.not_mem_nil, or_false] at h
  rcases h with rfl | rfl | rfl | rfl <;> rfl

theorem rappend_own {w : World} {base : Nat} {v : Value} {cs : List Rt} (ho : w.ownsRow base 36 4 v cs.length (cs.flatMap encRt')) (xs : List Rt) (u : Value) (hx : RdR w u xs) (hL : cs.length + xs.length ≤ 200) (hb : base ≤ w.heap.size) :
    ∃ v' w1, (Builtin.append_ #[27, 27] 27 #[v, u]).run Try.prog w = .ok v' w1 ∧ w1.ownsRow base 36 4 v' (cs ++ xs).length ((cs ++ xs).flatMap encRt') ∧ w.grownBy w1 v.ownBlock ∧ (v'.ownBlock = v.ownBlock ∨ v'.ownBlock = some w.heap.size) := by
  obtain ⟨A, c, rfl, hcell⟩ := hx
  obtain ⟨i0, hi, hz0, hz1, hz2⟩ := info_parts rr_info
  cases A with
  | none =>
    have hx0 : xs = [] := by
      cases xs with
      | nil => rfl
      | cons y l =>
        obtain ⟨g, o, e, _⟩ := hcell 0 y rfl
        cases e
    subst hx0
    have hrun : (Builtin.append_ #[27, 27] 27 #[v, .slice none 0 c]).run Try.prog w = .ok v w := by
      rcases ho.2 with ⟨rfl, hn⟩ | ⟨g, cap, cur, rfl, _, _, hnc, _⟩
      · simp [Builtin.append_, run_underlying Try.underlying27, sizeOf, typeInfo, hi, Builtin.lenOf, Builtin.firstCells]
      · simp [Builtin.append_, run_underlying Try.underlying27, sizeOf, typeInfo, hi, Builtin.lenOf, Builtin.firstCells, hnc, storeCells]
    exact ⟨v, w, hrun, by rw [List.append_nil]; exact ho, World.grownBy.refl w _, .inl rfl⟩
  | some ad =>
    have hcl : ∀ j u, (xs.flatMap encRt')[j]? = some u → w.cell? (ad.add j) = some u := by
      intro j u hu
      have hj : j < xs.length * 4 := by
        have := (List.getElem?_eq_some_iff.1 hu).1
        rwa [flat_len] at this
      have hk : j / 4 < xs.length := by omega
      obtain ⟨t, ht⟩ : ∃ t, xs[j / 4]? = some t := ⟨xs[j / 4], List.getElem?_eq_getElem hk⟩
      obtain ⟨g, o, e, c0, c1, c2, c3⟩ := hcell (j / 4) t ht
      obtain rfl := Option.some.inj e
      have e2 : j = j / 4 * 4 + j % 4 := by omega
      have hm : j % 4 < 4 := by omega
      have hf := flat_get xs (j / 4) (j % 4) t ht hm
      rw [← e2, hu] at hf
      rw [Addr.add_lit]
      have e3 : o + j = o + j / 4 * 4 + j % 4 := by omega
      rw [e3]
      rcases (show j % 4 = 0 ∨ j % 4 = 1 ∨ j % 4 = 2 ∨ j % 4 = 3 by omega) with h | h | h | h <;> rw [h] at hf ⊢ <;> simp only [encRt', List.getElem?_cons_zero, List.getElem?_cons_succ] at hf <;> rw [hf]
      · exact c0
      · exact c1
      · exact c2
      · exact c3
    obtain ⟨v', w1, hrun, ho1, hg, _, hat⟩ := run_append_own_at (P := Try.prog) w base 27 27 36 i0 Rt.zero.val 4 32 Try.underlying27 hi hz0 hz1 hz2 rfl (by omega) v cs.length (cs.flatMap encRt') ho ad xs.length c (xs.flatMap encRt') (flat_len xs)
      hcl flat_one (by simp only [maxLen]; omega) (by omega) hb
    exact ⟨v', w1, hrun, by rw [List.length_append, List.flatMap_append]; exact ho1, hg, hat⟩

theorem rstep_append_eq {P : Program} {ops : Array Oper} {o : Oper} {a : Act} {w : World} {K : Act → World → Prop} {Q : Exit → Act → World → Prop} {E : Prop} (hgd : o.guard = none) (s x : Operand) (t : TypeId)
    (ho : o.op = .call { callee := .builtin .append, args := #[s, x], argTypes := #[t, t] }) (v1 v2 : Value) (hs : a.eval s = v1) (hx : a.eval x = v2) (v' : Value) (w' : World)
    (hrun : (Builtin.append_ #[t, t] o.type #[v1, v2]).run P w = .ok v' w') (h : K (a.put o.dst v') w') :
    if Region.wanted o (yielded ops a.tmps) = true then Oper.wp P o a w K Q else E := by
  have hw : Region.wanted o (yielded ops a.tmps) = true := by simp [Region.wanted, hgd]
  rw [if_pos hw]
  unfold Oper.wp execOp
  simp only [ho, resolve, invoke, builtin, Sem.run_bind, Sem.run_pure, Result.andThen_ok, List.map_toArray, List.map_cons, List.map_nil, hs, hx, hrun]
  exact h

/-- A row of routes of one's own, and (where it lies already) the box of one route, beside it. -/
structure Rk (w W : World) (g c : Nat) (cs : List Rt) (kx : Option Nat) (r : Rt) : Prop where
  old : Below w.heap.size w W
  row : W.ownsRow w.heap.size 36 4 (.slice (some ⟨g, 0, none⟩) cs.length c) cs.length (cs.flatMap encRt')
  x : ∀ k, kx = some k → RtAt W k r ∧ k ≠ g
section
variable {w W W' : World} {g c : Nat} {cs : List Rt} {kx : Option Nat} {r : Rt}
theorem empty_owns (W : World) (B : Nat) (h : B ≤ W.heap.size) : (W.alloc (.cells #[] 36)).ownsRow B 36 4 (.slice (some ⟨W.heap.size, 0, none⟩) 0 0) 0 ([].flatMap encRt') :=
  ⟨rfl, .inr ⟨W.heap.size, 0, #[], rfl, h, heap_alloc_new W _, Nat.le_refl _, by simp [maxLen], rfl, rfl⟩⟩
theorem Rk.first (h : Below w.heap.size w W) (r : Rt) : Rk w (W.alloc (.cells #[] 36)) W.heap.size 0 [] none r :=
  ⟨h.alloc h.size _, empty_owns W _ h.size, fun _ e => by cases e⟩
theorem Rk.lt (h : Rk w W g c cs kx r) : g < W.heap.size := by
  rcases h.row.2 with ⟨e, _⟩ | ⟨g', cap, cur, e, _, hg, _⟩
  · cases e
  · cases e
    exact (Array.getElem?_eq_some_iff.1 hg).1
theorem Rk.below (h : Rk w W g c cs kx r) (hb : Below W.heap.size W W') : Rk w W' g c cs kx r :=
  ⟨below_to h.old hb h.old.size, h.row.kept (row := none) ⟨hb.os, hb.tape, hb.output, hb.size, fun i hi _ => hb.block i hi⟩ (by simp [Value.ownBlock]), fun k e => ⟨(h.x k e).1.below hb, (h.x k e).2⟩⟩
theorem Rk.alloc (h : Rk w W g c cs none r) : Rk w (W.alloc r.robj) g c cs (some W.heap.size) r := by
  have hl := h.lt
  have hb : Below W.heap.size W (W.alloc r.robj) := (Below.refl _ _).alloc (Nat.le_refl _) _
  exact ⟨(h.below hb).old, (h.below hb).row, fun k e => by cases e; exact ⟨RtAt.of_rheap (heap_alloc_new W r.robj), by omega⟩⟩
theorem Rk.firstX (h : Below w.heap.size w W) (r : Rt) : Rk w ((W.alloc r.robj).alloc (.cells #[] 36)) (W.heap.size + 1) 0 [] (some W.heap.size) r := by
  have h1 := Rk.first (below_al h r.robj) r
  rw [World.size_alloc] at h1
  exact ⟨h1.old, h1.row, fun k e => by cases e; exact ⟨(RtAt.of_rheap (heap_alloc_new W r.robj)).below ((Below.refl _ _).alloc (Nat.le_refl _) _), by omega⟩⟩
theorem step_append_rk {ops : Array Oper} {o : Oper} {a : Act} {K : Act → World → Prop} {Q : Exit → Act → World → Prop} {E : Prop} (hgd : o.guard = none) (s x : Operand)
    (ho : o.op = .call { callee := .builtin .append, args := #[s, x], argTypes := #[27, 27] }) (hty : o.type = 27) (g c : Nat) (cs xs : List Rt) (u : Value) (n m : Nat) (hs : a.eval s = .slice (some ⟨g, 0, none⟩) n c) (hn : n = cs.length) (hx : a.eval x = u)
    (h : Rk w W g c cs kx r ∧ RdR W u xs) (hL : cs.length + xs.length ≤ 200) (hm : m = (cs ++ xs).length) (d : Nat) (hd : o.dst = some d)
    (hK : ∀ g' c' W1, Rk w W1 g' c' (cs ++ xs) kx r → K (a.put (some d) (.slice (some ⟨g', 0, none⟩) m c')) W1) :
    if Region.wanted o (yielded ops a.tmps) = true then Oper.wp Try.prog o a W K Q else E := by
  subst hn hm
  obtain ⟨v', W1, hrun, ho1, hg, hat⟩ := rappend_own h.1.row xs u h.2 hL h.1.old.size
  rcases ho1.2 with ⟨e, _⟩ | ⟨g', c', cur', e, _, k1, _⟩
  · subst e
    rcases hat with h | h <;> simp [Value.ownBlock] at h
  · subst e
    have hgg : g' = g ∨ g' = W.heap.size := by
      rcases hat with h' | h'
      · exact .inl (by simpa [Value.ownBlock] using h')
      · exact .inr (by simpa [Value.ownBlock] using h')
    refine rstep_append_eq hgd s x 27 ho _ _ hs hx _ W1 (by rw [hty]; exact hrun) ?_
    rw [hd]
    refine hK g' c' W1 ⟨h.1.old.grown hg h.1.old.size (ownBlock_ge h.1.row), ho1, fun k e => ?_⟩
    obtain ⟨h1, h2⟩ := h.1.x k e
    have hlt := h1.lt
    have hb : W1.heap[k]? = W.heap[k]? := hg.block k hlt (fun e => h2 (by simpa [Value.ownBlock] using e))
    have hc : ∀ {i v}, W.cell? ⟨k, i, none⟩ = some v → W1.cell? ⟨k, i, none⟩ = some v := fun hi => by
      unfold World.cell? at *
      rw [hb]
      exact hi
    refine ⟨⟨hc h1.c0, hc h1.c1, hc h1.c2, hc h1.c3⟩, ?_⟩
    rcases hgg with e | e
    · rw [e]; exact h2
    · rw [e]; exact Nat.ne_of_lt hlt
end
end Go.Proofs.Ytimpellpfnmicaa
