/-
  What is proved: append of texts to a row of one's own, as a step of a region that draws; an entry's texts replaced in its row.
  Conditions: none of its own.
-/
import Derived.Test.YtfeipeninmclkaaRcLearn
namespace Go.Proofs.Ytfeipeninmclkaa
open Go.RowKit

theorem s_info : (Try.prog.info? 9).map (fun i => (i.zero, i.size, i.bytes)) = some (some (.string (txt [])), 1, 16) := by kernel_rfl
def Tx (l : List (List UInt8)) : List Value := l.map fun b => .string (txt b)
theorem tx_one {l : List (List UInt8)} : ∀ u ∈ Tx l, u.oneCell' = true := by
  intro u hu
  obtain ⟨r, _, rfl⟩ := List.mem_map.1 hu
  rfl
theorem tx_len (l : List (List UInt8)) : (Tx l).length = l.length := by simp [Tx]
theorem tx_app (a b : List (List UInt8)) : Tx (a ++ b) = Tx a ++ Tx b := by simp [Tx]
/-- A slice that holds these texts. -/
def RdT (w : World) (u : Value) (xs : List (List UInt8)) : Prop := ∃ A c, u = .slice A xs.length c ∧ ∀ k v, (Tx xs)[k]? = some v → ∃ g o, A = some ⟨g, o, none⟩ ∧ w.cell? ⟨g, o + k, none⟩ = some v
theorem RdT.below {w w' : World} {u : Value} {xs : List (List UInt8)} (h : RdT w u xs) (hb : Below w.heap.size w w') : RdT w' u xs := by
  obtain ⟨A, c, e, h1⟩ := h
  exact ⟨A, c, e, fun k v hk => by
    obtain ⟨g, o, e, hc⟩ := h1 k v hk
    exact ⟨g, o, e, (hb.cell (World.block_lt_of_cell? w _ hc)).trans hc⟩⟩
theorem RdT.one {W : World} {k : Nat} {s : List UInt8} (h : W.cell? ⟨k, 0, none⟩ = some (.string (txt s))) : RdT W (.slice (some ⟨k, 0, none⟩) 1 1) [s] :=
  ⟨_, 1, rfl, fun j t hj => by
    cases j with
    | zero =>
      obtain rfl : Value.string (txt s) = t := by simpa [Tx] using hj
      exact ⟨k, 0, rfl, h⟩
    | succ j => simp [Tx] at hj⟩
theorem SRow.rd {w : World} {F : Nat → Prop} {A : Option Addr} {c : Nat} {pk : List (List UInt8)} (h : SRow w F A c pk) : RdT w (.slice A pk.length c) pk :=
  ⟨A, c, rfl, fun k v hk => by
    have hl := (List.getElem?_eq_some_iff.1 hk).1
    rw [tx_len] at hl
    rcases h.1.2 with ⟨_, h2⟩ | ⟨g, cap, cur, hv, _⟩
    · omega
    · cases hv
      exact ⟨g, 0, rfl, by rw [Nat.zero_add]; exact owns_cell h.1 hk⟩⟩
theorem tappend_own {w : World} {base : Nat} {v : Value} {cs : List (List UInt8)} (ho : w.ownsRow base 9 1 v cs.length (Tx cs)) (xs : List (List UInt8)) (u : Value) (hx : RdT w u xs) (hL : cs.length + xs.length ≤ 200) (hb : base ≤ w.heap.size) :
    ∃ v' w1, (Builtin.append_ #[45, 45] 45 #[v, u]).run Try.prog w = .ok v' w1 ∧ w1.ownsRow base 9 1 v' (cs ++ xs).length (Tx (cs ++ xs)) ∧ w.grownBy w1 v.ownBlock ∧ (v'.ownBlock = v.ownBlock ∨ v'.ownBlock = some w.heap.size) := by
  obtain ⟨A, c, rfl, hcell⟩ := hx
  obtain ⟨i0, hi, hz0, hz1, hz2⟩ := info_parts s_info
  cases A with
  | none =>
    have hx0 : xs = [] := by
      cases xs with
      | nil => rfl
      | cons y l =>
        obtain ⟨g, o, e, _⟩ := hcell 0 _ rfl
        cases e
    subst hx0
    have hrun : (Builtin.append_ #[45, 45] 45 #[v, .slice none 0 c]).run Try.prog w = .ok v w := by
      rcases ho.2 with ⟨rfl, hn⟩ | ⟨g, cap, cur, rfl, _, _, hnc, _⟩
      · simp [Builtin.append_, run_underlying Try.underlying45, sizeOf, typeInfo, hi, Builtin.lenOf, Builtin.firstCells]
      · simp [Builtin.append_, run_underlying Try.underlying45, sizeOf, typeInfo, hi, Builtin.lenOf, Builtin.firstCells, hnc, storeCells]
    exact ⟨v, w, hrun, by rw [List.append_nil]; exact ho, World.grownBy.refl w _, .inl rfl⟩
  | some ad =>
    have hcl : ∀ j u, (Tx xs)[j]? = some u → w.cell? (ad.add j) = some u := by
      intro j u hu
      obtain ⟨g, o, e, hx⟩ := hcell j u hu
      obtain rfl := Option.some.inj e
      rw [Addr.add_lit]
      exact hx
    obtain ⟨v', w1, hrun, ho1, hg, _, hat⟩ := run_append_own_at (P := Try.prog) w base 45 45 9 i0 (.string (txt [])) 1 16 Try.underlying45 hi hz0 hz1 hz2 rfl (by omega) v cs.length (Tx cs) ho ad xs.length c (Tx xs) (by rw [tx_len]; omega)
      hcl tx_one (by simp only [maxLen]; omega) (by omega) hb
    exact ⟨v', w1, hrun, by rw [List.length_append, tx_app]; exact ho1, hg, hat⟩
/-- A row of texts of one's own, and (where it lies already) the box of one text, beside it. -/
structure Tk2 (w W : World) (g c : Nat) (cs : List (List UInt8)) (kx : Option Nat) (x : List UInt8) : Prop where
  old : Below w.heap.size w W
  row : W.ownsRow w.heap.size 9 1 (.slice (some ⟨g, 0, none⟩) cs.length c) cs.length (Tx cs)
  x : ∀ k, kx = some k → W.cell? ⟨k, 0, none⟩ = some (.string (txt x)) ∧ k ≠ g
section
variable {w W W' : World} {g c : Nat} {cs : List (List UInt8)} {kx : Option Nat} {x : List UInt8}
theorem tempty_owns (W : World) (B : Nat) (h : B ≤ W.heap.size) : (W.alloc (.cells #[] 9)).ownsRow B 9 1 (.slice (some ⟨W.heap.size, 0, none⟩) 0 0) 0 (Tx []) :=
  ⟨rfl, .inr ⟨W.heap.size, 0, #[], rfl, h, heap_alloc_new W _, Nat.le_refl _, by simp [maxLen], rfl, rfl⟩⟩
theorem tbox_cell (W : World) (x : List UInt8) : (W.alloc (.cells #[.string (txt x)] 9)).cell? ⟨W.heap.size, 0, none⟩ = some (.string (txt x)) := by
  unfold World.cell?
  rw [heap_alloc_new W (.cells #[.string (txt x)] 9)]
  rfl
theorem Tk2.first (h : Below w.heap.size w W) (x : List UInt8) : Tk2 w (W.alloc (.cells #[] 9)) W.heap.size 0 [] none x :=
  ⟨h.alloc h.size _, tempty_owns W _ h.size, fun _ e => by cases e⟩
theorem Tk2.lt (h : Tk2 w W g c cs kx x) : g < W.heap.size := by
  rcases h.row.2 with ⟨e, _⟩ | ⟨g', cap, cur, e, _, hg, _⟩
  · cases e
  · cases e
    exact (Array.getElem?_eq_some_iff.1 hg).1
theorem Tk2.below (h : Tk2 w W g c cs kx x) (hb : Below W.heap.size W W') : Tk2 w W' g c cs kx x :=
  ⟨below_to h.old hb h.old.size, h.row.kept (row := none) ⟨hb.os, hb.tape, hb.output, hb.size, fun i hi _ => hb.block i hi⟩ (by simp [Value.ownBlock]), fun k e => ⟨(hb.cell (World.block_lt_of_cell? W _ (h.x k e).1)).trans (h.x k e).1, (h.x k e).2⟩⟩
theorem Tk2.alloc (h : Tk2 w W g c cs none x) : Tk2 w (W.alloc (.cells #[.string (txt x)] 9)) g c cs (some W.heap.size) x := by
  have hl := h.lt
  have hb : Below W.heap.size W (W.alloc (.cells #[.string (txt x)] 9)) := (Below.refl _ _).alloc (Nat.le_refl _) _
  exact ⟨(h.below hb).old, (h.below hb).row, fun k e => by cases e; exact ⟨tbox_cell W x, by omega⟩⟩
theorem Tk2.firstX (h : Below w.heap.size w W) (x : List UInt8) : Tk2 w ((W.alloc (.cells #[.string (txt x)] 9)).alloc (.cells #[] 9)) (W.heap.size + 1) 0 [] (some W.heap.size) x := by
  have h1 := Tk2.first (below_al h (.cells #[.string (txt x)] 9)) x
  rw [World.size_alloc] at h1
  exact ⟨h1.old, h1.row, fun k e => by cases e; exact ⟨(((Below.refl _ _).alloc (Nat.le_refl _) _).cell (World.block_lt_of_cell? _ _ (tbox_cell W x))).trans (tbox_cell W x), by omega⟩⟩
theorem step_append_tk {ops : Array Oper} {o : Oper} {a : Act} {K : Act → World → Prop} {Q : Exit → Act → World → Prop} {E : Prop} (hgd : o.guard = none) (s y : Operand)
    (ho : o.op = .call { callee := .builtin .append, args := #[s, y], argTypes := #[45, 45] }) (hty : o.type = 45) (g c : Nat) (cs xs : List (List UInt8)) (u : Value) (n m : Nat) (hs : a.eval s = .slice (some ⟨g, 0, none⟩) n c) (hn : n = cs.length) (hx : a.eval y = u)
    (h : Tk2 w W g c cs kx x ∧ RdT W u xs) (hL : cs.length + xs.length ≤ 200) (hm : m = (cs ++ xs).length) (d : Nat) (hd : o.dst = some d)
    (hK : ∀ g' c' W1, Tk2 w W1 g' c' (cs ++ xs) kx x → K (a.put (some d) (.slice (some ⟨g', 0, none⟩) m c')) W1) :
    if Region.wanted o (yielded ops a.tmps) = true then Oper.wp Try.prog o a W K Q else E := by
  subst hn hm
  obtain ⟨v', W1, hrun, ho1, hg, hat⟩ := tappend_own h.1.row xs u h.2 hL h.1.old.size
  rcases ho1.2 with ⟨e, _⟩ | ⟨g', c', cur', e, _, k1, _⟩
  · subst e
    rcases hat with h | h <;> simp [Value.ownBlock] at h
  · subst e
    have hgg : g' = g ∨ g' = W.heap.size := by
      rcases hat with h' | h'
      · exact .inl (by simpa [Value.ownBlock] using h')
      · exact .inr (by simpa [Value.ownBlock] using h')
    refine xstep_append_eq hgd s y 45 ho _ _ hs hx _ W1 (by rw [hty]; exact hrun) ?_
    rw [hd]
    refine hK g' c' W1 ⟨h.1.old.grown hg h.1.old.size (ownBlock_ge h.1.row), ho1, fun k e => ?_⟩
    obtain ⟨h1, h2⟩ := h.1.x k e
    have hlt : k < W.heap.size := World.block_lt_of_cell? W _ h1
    have hbk : W1.heap[k]? = W.heap[k]? := hg.block k hlt (fun e => h2 (by simpa [Value.ownBlock] using e))
    refine ⟨by unfold World.cell? at *; rw [hbk]; exact h1, ?_⟩
    rcases hgg with e | e
    · rw [e]; exact h2
    · rw [e]; exact Nat.ne_of_lt hlt
end
theorem cell_set_same {w : World} {g i : Nat} {cur : Array Value} {t : TypeId} {fr : Nat × Nat} (h : w.heap[g]? = some (.cells cur t fr)) (hi : i < cur.size) (v : Value) : (w.setCell ⟨g, i, none⟩ v).cell? ⟨g, i, none⟩ = some v := by
  simp [World.cell?, World.setCell, Array.getElem?_modify, h, hi]
/-- c.L[k].L = texts. -/
theorem Rc.setT {w W : World} {p : Nat} {F : Nat → Prop} {P : List Xe} {g o c k : Nat} {s x : Xe} (h : Rc w p F (.slice (some ⟨g, o, none⟩) P.length c) P) (hb : Below w.heap.size w W) (hk : P[k]? = some s) (hS : SRow W (Nw w W F) x.A x.c x.e.pk) (hok : x.e.Ok)
    (hip : x.e.ip = s.e.ip) (hkn : x.e.kn = s.e.kn) (hm : x.e.m = s.e.m) (ht : x.e.t = s.e.t) (htr : x.e.tr = s.e.tr) :
    (P.set k x).map Xe.e = putL (P.map Xe.e) x.e ∧ Rc (W.setCell ⟨g, o + k * 11 + 10, none⟩ (.slice x.A x.e.pk.length x.c)) p (Nw w W F) (.slice (some ⟨g, o, none⟩) P.length c) (P.set k x) ∧ Did w (W.setCell ⟨g, o + k * 11 + 10, none⟩ (.slice x.A x.e.pk.length x.c)) F (Nw w W F) := by
  obtain ⟨A, c', e, h1, h2, h3, h4, h5⟩ := (h.below hb).row
  cases e
  obtain ⟨f1, cur1, f2⟩ := h5 _ rfl
  have hX : ∀ j y, P[j]? = some y → XAt W g (o + j * 11) y := fun j y hj => by
    obtain ⟨g', o', e, hy⟩ := h3 j y hj
    cases e
    exact hy
  have hother : ∀ i, i ≠ o + k * 11 + 10 → (W.setCell ⟨g, o + k * 11 + 10, none⟩ (.slice x.A x.e.pk.length x.c)).cell? ⟨g, i, none⟩ = W.cell? ⟨g, i, none⟩ := fun i hi =>
    World.cell?_setCell_other _ _ _ _ (fun e => hi (by cases e; rfl))
  have hs10 := (hX k s hk).c10
  have hsz : o + k * 11 + 10 < cur1.size := by
    simp only [World.cell?, f2] at hs10
    exact (Array.getElem?_eq_some_iff.1 hs10).1
  refine h.written hb rfl rfl rfl (by simp [World.setCell]) (fun j hj => Below.heap_setCell _ _ _ _ hj) (setCell_typ f2 _ _) hk ?_ (fun j y hj hy => ?_) hS hok hip
  · obtain ⟨c0, c1, c2, c3, c4, c5, c6, c7, c8, c9, _⟩ := hX k s hk
    refine ⟨?_, ?_, ?_, ?_, ?_, ?_, ?_, ?_, ?_, ?_, cell_set_same f2 hsz _⟩
    · rw [hother _ (by omega), hip]; exact c0
    · rw [hother _ (by omega), hkn]; exact c1
    · rw [hother _ (by omega), hm]; exact c2
    · rw [hother _ (by omega), hm]; exact c3
    · rw [hother _ (by omega), hm]; exact c4
    · rw [hother _ (by omega), hm]; exact c5
    · rw [hother _ (by omega), hm]; exact c6
    · rw [hother _ (by omega), hm]; exact c7
    · rw [hother _ (by omega), ht]; exact c8
    · rw [hother _ (by omega), htr]; exact c9
  · refine XAt.of fun i v hi => ?_
    have hi11 : i < 11 := (List.getElem?_eq_some_iff.1 hi).1
    exact (hother _ (by omega)).trans ((hX j y hy).range i v hi)
end Go.Proofs.Ytfeipeninmclkaa
