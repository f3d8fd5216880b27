/-
  What is proved: a row of one's own beside the box of an answer; append, and the store of a whole datagram, as steps of a region that draws.
  Conditions: none of its own.
-/
import Derived.Test.YtikcnlcpbifobaaDoorUOf
namespace Go.Proofs.YtikcnlcpbifobaaDoor
open Go.RowKit

theorem ustep_append_eq {P : Program} {ops : Array Oper} {o : Oper} {a : Act} {w : World} {K : Act → World → Prop} {Q : Exit → Act → World → Prop} {E : Prop} (hgd : o.guard = none) (s x : Operand) (t : TypeId)
    (ho : o.op = .call { callee := .builtin .append, args := #[s, x], argTypes := #[t, t] }) (v1 v2 : Value) (hs : a.eval s = v1) (hx : a.eval x = v2) (v' : Value) (w' : World)
    (hrun : (Builtin.append_ #[t, t] o.type #[v1, v2]).run P w = .ok v' w') (h : K (a.put o.dst v') w') :
    if Region.wanted o (yielded ops a.tmps) = true then Oper.wp P o a w K Q else E := by
  have hw : Region.wanted o (yielded ops a.tmps) = true := by simp [Region.wanted, hgd]
  rw [if_pos hw]
  unfold Oper.wp execOp
  simp only [ho, resolve, invoke, builtin, Sem.run_bind, Sem.run_pure, Result.andThen_ok, List.map_toArray, List.map_cons, List.map_nil, hs, hx, hrun]
  exact h

/-- A row of one's own, and (where it lies already) the box of an answer, beside it. -/
structure Uk (w W : World) (g c : Nat) (bs : List UInt8) (kx : Option Nat) : Prop where
  mine : Mine w W g c bs
  x : ∀ k, kx = some k → W.heap[k]? = some noDgObj ∧ k ≠ g ∧ w.heap.size ≤ k
section
variable {w W W' : World} {g c : Nat} {bs : List UInt8} {kx : Option Nat}
theorem Uk.first (h : Below w.heap.size w W) : Uk w (W.alloc (.cells #[] 5)) W.heap.size 0 [] none := ⟨Mine.first h, fun _ e => by cases e⟩
theorem Uk.below (h : Uk w W g c bs kx) (hb : Below W.heap.size W W') : Uk w W' g c bs kx := ⟨h.mine.below hb, fun k e => ⟨be_block hb (h.x k e).1, (h.x k e).2⟩⟩
theorem Uk.alloc (h : Uk w W g c bs none) : Uk w (W.alloc noDgObj) g c bs (some W.heap.size) :=
  ⟨h.mine.alloc _, fun k e => by cases e; exact ⟨heap_alloc_new W noDgObj, Nat.ne_of_gt h.mine.row.lt, h.mine.old.size⟩⟩
theorem Uk.firstX (h : Below w.heap.size w W) : Uk w ((W.alloc noDgObj).alloc (.cells #[] 5)) (W.heap.size + 1) 0 [] (some W.heap.size) := by
  have h1 := Mine.first (below_al h noDgObj)
  rw [World.size_alloc] at h1
  exact ⟨h1, fun k e => by cases e; exact ⟨be_block (below_al (Below.refl _ _) _) (heap_alloc_new W noDgObj), by omega, h.size⟩⟩
theorem Uk.drew (h : Uk w W g c bs kx) : Uk w W.drew g c bs kx := h.below (below_drew W)
theorem step_append_uk {ops : Array Oper} {o : Oper} {a : Act} {K : Act → World → Prop} {Q : Exit → Act → World → Prop} {E : Prop} (hgd : o.guard = none) (s x : Operand)
    (ho : o.op = .call { callee := .builtin .append, args := #[s, x], argTypes := #[22, 22] }) (hty : o.type = 22) (g c : Nat) (bs xs : List UInt8) (u : Value) (n m : Nat) (hs : a.eval s = .slice (some ⟨g, 0, none⟩) n c) (hn : n = bs.length) (hx : a.eval x = u)
    (h : Uk w W g c bs kx ∧ Rd W u xs) (hL : bs.length + xs.length ≤ 1099511627776) (hm : m = (bs ++ xs).length) (d : Nat) (hd : o.dst = some d)
    (hK : ∀ g' c' W1, Uk w W1 g' c' (bs ++ xs) kx → K (a.put (some d) (.slice (some ⟨g', 0, none⟩) m c')) W1) :
    if Region.wanted o (yielded ops a.tmps) = true then Oper.wp Tryd.prog o a W K Q else E := by
  subst hn hm
  obtain ⟨g', c', W1, hrun, hm, hg, hk, hz⟩ := h.1.mine.append xs u h.2 hL
  refine ustep_append_eq hgd s x 22 ho _ _ hs hx _ W1 (by rw [hty]; exact hrun) ?_
  rw [hd]
  refine hK g' c' W1 ⟨hm, fun k e => ?_⟩
  obtain ⟨h1, h2, h3⟩ := h.1.x k e
  refine ⟨(hk k (Array.getElem?_eq_some_iff.1 h1).1 h2).trans h1, ?_, h3⟩
  rcases hg with e | e
  · rw [e]; exact h2
  · rw [e]; exact Nat.ne_of_lt (Array.getElem?_eq_some_iff.1 h1).1
end
/-- The store of a whole datagram into its box. -/
theorem step_store_dg {ops : Array Oper} {o : Oper} {a : Act} {W : World} {K : Act → World → Prop} {Q : Exit → Act → World → Prop} {E : Prop} (hgd : o.guard = none) (x y : Operand) (ho : o.op = .store 25 x y)
    (k : Nat) (q : Dg) (A : Option Addr) (n c : Nat) (hx : a.eval x = .pointer (some ⟨k, 0, none⟩)) (hy : a.eval y = .agg #[.int .u16 q.src, .int .u16 q.dst, .bool q.plain, .slice A n c])
    (hg : W.heap[k]? = some noDgObj) (hd : o.dst = none)
    (h : K (a.put none undef) (W.setRow k #[.int .u16 q.src, .int .u16 q.dst, .bool q.plain, .slice A n c])) :
    if Region.wanted o (yielded ops a.tmps) = true then Oper.wp Tryd.prog o a W K Q else E :=
  step_store_row hgd 25 x y ho k _ hx hy _ _ hg dgSize rfl (by simp [Value.oneCell']) hd h
/-- The box behind such a store. -/
theorem dg_stored {W : World} {k : Nat} (h : W.heap[k]? = some noDgObj) (q : Dg) (u : Value) : DgAt (W.setRow k #[.int .u16 q.src, .int .u16 q.dst, .bool q.plain, u]) k q u := setRow_heap _ _ _ _ _ _ h
theorem ubelow_row {w W : World} {n g : Nat} (h : Below n w W) (hg : n ≤ g) (cs : Array Value) : Below n w (W.setRow g cs) :=
  h.trans ⟨rfl, rfl, rfl, by rw [setRow_size]; exact Nat.le_refl _, fun k hk => setRow_other W g cs (by omega)⟩
/-- Bytes that are cut off are no datagram's. -/
theorem uParse_cut {d : Dg} {s t : Nat} (h : d.Ok s t) (K : Nat) (hK : K < d.n) (A : Option Addr) (cap : Nat) (w : World) (hr : Rd w (.slice A K cap) ((d.bs s t).take K)) (s2 t2 : Nat) :
    Calls Tryd.prog 9 #[.slice A K cap, .int .u32 (s2 : Int), .int .u32 (t2 : Int)] w fun e w' => ∃ l, ToldErr (.agg noDgRow) 2 l w e w' := by
  have hl : ((d.bs s t).take K).length = K := by
    rw [List.length_take, d.bs_len]
    have : d.n = 8 + d.b.length := rfl
    omega
  have hn := h.n
  by_cases h8 : K < 8
  · have k := uParse_short ((d.bs s t).take K) (by rw [hl]; exact h8) A cap s2 t2 w (by rw [hl]; exact hr)
    rw [hl] at k
    exact k.mono fun _ _ he => ⟨_, he⟩
  · have e : (d.bs s t).take K = hd8 d.src d.dst d.n (d.sum s t) ++ d.b.take (K - 8) := by
      unfold Dg.bs
      rw [List.take_append, hd8_len, List.take_of_length_le (by rw [hd8_len]; omega)]
    have hl2 : 8 + (d.b.take (K - 8)).length = K := by
      have k := hl
      rw [e, List.length_append, hd8_len] at k
      exact k
    rw [e] at hr
    have hc : ucode s2 t2 d.src d.dst d.n (d.sum s t) (d.b.take (K - 8)) = 2 := by
      unfold ucode
      rw [if_neg (by omega), if_pos (by omega)]
    have k := uParse_long d.src h.inn.src d.dst h.inn.dst d.n h.n (d.sum s t) (d.sum_lt s t) (d.b.take (K - 8)) A cap s2 t2 w (by rw [hl2]; exact hr) (by rw [List.length_append, hd8_len]; omega)
    rw [hl2, hc] at k
    refine k.mono ?_
    rintro e w' (⟨_, he⟩ | ⟨h0, _⟩)
    · exact ⟨_, he⟩
    · exact absurd h0 (by decide)
end Go.Proofs.YtikcnlcpbifobaaDoor
