/-
  What is proved: a row of one's own beside the box of an answer; append, and the store of a whole packet, as steps of a region that draws.
  Conditions: none of its own.
-/
import Derived.Test.YthinmonahnbkdaaDoorAShown
import Derived.Test.YthinmonahnbkdaaDoorSRow
import Derived.Test.YthinmonahnbkdaaDoorBlk
namespace Go.Proofs.YthinmonahnbkdaaDoor
open Go.RowKit

theorem astep_append_eq {P : Program} {ops : Array Oper} {o : Oper} {a : Act} {w : World} {K : Act → World → Prop} {Q : Exit → Act → World → Prop} {E : Prop} (hgd : o.guard = none) (s x : Operand) (t : TypeId)
    (ho : o.op = .call { callee := .builtin .append, args := #[s, x], argTypes := #[t, t] }) (v1 v2 : Value) (hs : a.eval s = v1) (hx : a.eval x = v2) (v' : Value) (w' : World)
    (hrun : (Builtin.append_ #[t, t] o.type #[v1, v2]).run P w = .ok v' w') (h : K (a.put o.dst v') w') :
    if Region.wanted o (yielded ops a.tmps) = true then Oper.wp P o a w K Q else E := by
  have hw : Region.wanted o (yielded ops a.tmps) = true := by simp [Region.wanted, hgd]
  rw [if_pos hw]
  unfold Oper.wp execOp
  simp only [ho, resolve, invoke, builtin, Sem.run_bind, Sem.run_pure, Result.andThen_ok, List.map_toArray, List.map_cons, List.map_nil, hs, hx, hrun]
  exact h

theorem abe_block {W W' : World} {G : Nat} {o : Obj} (hb : Below W.heap.size W W') (h : W.heap[G]? = some o) : W'.heap[G]? = some o := (hb.block G (Array.getElem?_eq_some_iff.1 h).1).trans h
/-- A row of one's own, and (where it lies already) the box of an answer, beside it. -/
structure Ak (w W : World) (g c : Nat) (bs : List UInt8) (kx : Option Nat) : Prop where
  mine : Mine w W g c bs
  x : ∀ k, kx = some k → W.heap[k]? = some noLit ∧ k ≠ g ∧ w.heap.size ≤ k
section
variable {w W W' : World} {g c : Nat} {bs : List UInt8} {kx : Option Nat}
theorem Ak.first (h : Below w.heap.size w W) : Ak w (W.alloc (.cells #[] 5)) W.heap.size 0 [] none := ⟨Mine.first h, fun _ e => by cases e⟩
theorem Ak.below (h : Ak w W g c bs kx) (hb : Below W.heap.size W W') : Ak w W' g c bs kx := ⟨h.mine.below hb, fun k e => ⟨abe_block hb (h.x k e).1, (h.x k e).2⟩⟩
theorem Ak.alloc (h : Ak w W g c bs none) : Ak w (W.alloc noLit) g c bs (some W.heap.size) :=
  ⟨h.mine.alloc _, fun k e => by cases e; exact ⟨heap_alloc_new W noLit, Nat.ne_of_gt h.mine.row.lt, h.mine.old.size⟩⟩
theorem Ak.firstX (h : Below w.heap.size w W) : Ak w ((W.alloc noLit).alloc (.cells #[] 5)) (W.heap.size + 1) 0 [] (some W.heap.size) := by
  have h1 := Mine.first (below_al h noLit)
  rw [World.size_alloc] at h1
  exact ⟨h1, fun k e => by cases e; exact ⟨abe_block (below_al (Below.refl _ _) _) (heap_alloc_new W noLit), by omega, h.size⟩⟩
theorem Ak.drew (h : Ak w W g c bs kx) : Ak w W.drew g c bs kx := h.below (below_drew W)
theorem step_append_ak {ops : Array Oper} {o : Oper} {a : Act} {K : Act → World → Prop} {Q : Exit → Act → World → Prop} {E : Prop} (hgd : o.guard = none) (s x : Operand)
    (ho : o.op = .call { callee := .builtin .append, args := #[s, x], argTypes := #[22, 22] }) (hty : o.type = 22) (g c : Nat) (bs xs : List UInt8) (u : Value) (n m : Nat) (hs : a.eval s = .slice (some ⟨g, 0, none⟩) n c) (hn : n = bs.length) (hx : a.eval x = u)
    (h : Ak w W g c bs kx ∧ Rd W u xs) (hL : bs.length + xs.length ≤ 1099511627776) (hm : m = (bs ++ xs).length) (d : Nat) (hd : o.dst = some d)
    (hK : ∀ g' c' W1, Ak w W1 g' c' (bs ++ xs) kx → K (a.put (some d) (.slice (some ⟨g', 0, none⟩) m c')) W1) :
    if Region.wanted o (yielded ops a.tmps) = true then Oper.wp Tryd.prog o a W K Q else E := by
  subst hn hm
  obtain ⟨g', c', W1, hrun, hm, hg, hk, hz⟩ := h.1.mine.append xs u h.2 hL
  refine astep_append_eq hgd s x 22 ho _ _ hs hx _ W1 (by rw [hty]; exact hrun) ?_
  rw [hd]
  refine hK g' c' W1 ⟨hm, fun k e => ?_⟩
  obtain ⟨h1, h2, h3⟩ := h.1.x k e
  refine ⟨(hk k (Array.getElem?_eq_some_iff.1 h1).1 h2).trans h1, ?_, h3⟩
  rcases hg with e | e
  · rw [e]; exact h2
  · rw [e]; exact Nat.ne_of_lt (Array.getElem?_eq_some_iff.1 h1).1
end
/-- The store of a whole packet into its box. -/
theorem step_store_pk {ops : Array Oper} {o : Oper} {a : Act} {W : World} {K : Act → World → Prop} {Q : Exit → Act → World → Prop} {E : Prop} (hgd : o.guard = none) (x y : Operand) (ho : o.op = .store 29 x y)
    (k : Nat) (q : Pkt) (hx : a.eval x = .pointer (some ⟨k, 0, none⟩)) (hy : a.eval y = .agg #[.int .u16 q.op, .int .u8 q.sha.a.toNat, .int .u8 q.sha.b.toNat, .int .u8 q.sha.c.toNat, .int .u8 q.sha.d.toNat, .int .u8 q.sha.e.toNat, .int .u8 q.sha.f.toNat, .int .u32 q.spa, .int .u8 q.tha.a.toNat, .int .u8 q.tha.b.toNat, .int .u8 q.tha.c.toNat, .int .u8 q.tha.d.toNat, .int .u8 q.tha.e.toNat, .int .u8 q.tha.f.toNat, .int .u32 q.tpa])
    (hg : W.heap[k]? = some noLit) (hd : o.dst = none)
    (h : K (a.put none undef) (W.setRow k #[.int .u16 q.op, .int .u8 q.sha.a.toNat, .int .u8 q.sha.b.toNat, .int .u8 q.sha.c.toNat, .int .u8 q.sha.d.toNat, .int .u8 q.sha.e.toNat, .int .u8 q.sha.f.toNat, .int .u32 q.spa, .int .u8 q.tha.a.toNat, .int .u8 q.tha.b.toNat, .int .u8 q.tha.c.toNat, .int .u8 q.tha.d.toNat, .int .u8 q.tha.e.toNat, .int .u8 q.tha.f.toNat, .int .u32 q.tpa])) :
    if Region.wanted o (yielded ops a.tmps) = true then Oper.wp Tryd.prog o a W K Q else E :=
  step_store_row hgd 29 x y ho k _ hx hy _ _ hg pktSize rfl (pktRow_one q) hd h
/-- The box behind such a store. -/
theorem pk_stored {W : World} {k : Nat} (h : W.heap[k]? = some noLit) (q : Pkt) : PktAt (W.setRow k #[.int .u16 q.op, .int .u8 q.sha.a.toNat, .int .u8 q.sha.b.toNat, .int .u8 q.sha.c.toNat, .int .u8 q.sha.d.toNat, .int .u8 q.sha.e.toNat, .int .u8 q.sha.f.toNat, .int .u32 q.spa, .int .u8 q.tha.a.toNat, .int .u8 q.tha.b.toNat, .int .u8 q.tha.c.toNat, .int .u8 q.tha.d.toNat, .int .u8 q.tha.e.toNat, .int .u8 q.tha.f.toNat, .int .u32 q.tpa]) k q := setRow_heap _ _ _ _ _ _ h
theorem below_arow {w W : World} {g : Nat} (h : Below w.heap.size w W) (hg : w.heap.size ≤ g) (cs : Array Value) : Below w.heap.size w (W.setRow g cs) :=
  ((Fr.of_below (p := fun _ => False) h).row hg cs).below (Nat.le_refl _) (fun _ h => h.elim)
theorem afront_any {w : World} {A : Option Addr} {c : Nat} {bs : List UInt8} (h : Rd w (.slice A bs.length c) bs) (k : Nat) : Rd w (.slice A (bs.take k).length c) (bs.take k) := by
  by_cases hk : k ≤ bs.length
  · have e : (bs.take k).length = k := by rw [List.length_take]; omega
    rw [e]
    exact h.front hk
  · rw [List.take_of_length_le (by omega)]
    exact h
end Go.Proofs.YthinmonahnbkdaaDoor
