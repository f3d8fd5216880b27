/-
  What is proved: a row of one's own beside the box of an answer; append, and the store of a whole packet, as steps of a region that draws.
  Conditions: none of its own.
-/
import Derived.Test.YteglhfhkombkhaaDoorVBox
import Derived.Test.YteglhfhkombkhaaDoorBlk
namespace Go.Proofs.YteglhfhkombkhaaDoor
open Go.RowKit

theorem vstep_append_eq {P : Program} {ops : Array Oper} {o : Oper} {a : Act} {w : World} {K : Act → World → Prop} {Q : Exit → Act → World → Prop} {E : Prop} (hgd : o.guard = none) (s x : Operand) (t : TypeId)
    (ho : o.op = .call { callee := .builtin .append, args := #[s, x], argTypes := #[t, t] }) (v1 v2 : Value) (hs : a.eval s = v1) (hx : a.eval x = v2) (v' : Value) (w' : World)
    (hrun : (Builtin.append_ #[t, t] o.type #[v1, v2]).run P w = .ok v' w') (h : K (a.put o.dst v') w') :
    if Region.wanted o (yielded ops a.tmps) = true then Oper.wp P o a w K Q else E := by
  have hw : Region.wanted o (yielded ops a.tmps) = true := by simp [Region.wanted, hgd]
  rw [if_pos hw]
  unfold Oper.wp execOp
  simp only [ho, resolve, invoke, builtin, Sem.run_bind, Sem.run_pure, Result.andThen_ok, List.map_toArray, List.map_cons, List.map_nil, hs, hx, hrun]
  exact h

/-- A row of one's own, and (where it lies already) the box of an answer, beside it. -/
structure Vk (w W : World) (g c : Nat) (bs : List UInt8) (kx : Option Nat) : Prop where
  mine : Mine w W g c bs
  x : ∀ k, kx = some k → W.heap[k]? = some noIpObj ∧ k ≠ g ∧ w.heap.size ≤ k
section
variable {w W W' : World} {g c : Nat} {bs : List UInt8} {kx : Option Nat}
theorem Vk.first (h : Below w.heap.size w W) : Vk w (W.alloc (.cells #[] 5)) W.heap.size 0 [] none := ⟨Mine.first h, fun _ e => by cases e⟩
theorem Vk.below (h : Vk w W g c bs kx) (hb : Below W.heap.size W W') : Vk w W' g c bs kx := ⟨h.mine.below hb, fun k e => ⟨be_block hb (h.x k e).1, (h.x k e).2⟩⟩
theorem Vk.alloc (h : Vk w W g c bs none) : Vk w (W.alloc noIpObj) g c bs (some W.heap.size) :=
  ⟨h.mine.alloc _, fun k e => by cases e; exact ⟨heap_alloc_new W noIpObj, Nat.ne_of_gt h.mine.row.lt, h.mine.old.size⟩⟩
theorem Vk.firstX (h : Below w.heap.size w W) : Vk w ((W.alloc noIpObj).alloc (.cells #[] 5)) (W.heap.size + 1) 0 [] (some W.heap.size) := by
  have h1 := Mine.first (below_al h noIpObj)
  rw [World.size_alloc] at h1
  exact ⟨h1, fun k e => by cases e; exact ⟨be_block (below_al (Below.refl _ _) _) (heap_alloc_new W noIpObj), by omega, h.size⟩⟩
theorem Vk.drew (h : Vk w W g c bs kx) : Vk w W.drew g c bs kx := h.below (below_drew W)
theorem step_append_vk {ops : Array Oper} {o : Oper} {a : Act} {K : Act → World → Prop} {Q : Exit → Act → World → Prop} {E : Prop} (hgd : o.guard = none) (s x : Operand)
    (ho : o.op = .call { callee := .builtin .append, args := #[s, x], argTypes := #[22, 22] }) (hty : o.type = 22) (g c : Nat) (bs xs : List UInt8) (u : Value) (n m : Nat) (hs : a.eval s = .slice (some ⟨g, 0, none⟩) n c) (hn : n = bs.length) (hx : a.eval x = u)
    (h : Vk w W g c bs kx ∧ Rd W u xs) (hL : bs.length + xs.length ≤ 1099511627776) (hm : m = (bs ++ xs).length) (d : Nat) (hd : o.dst = some d)
    (hK : ∀ g' c' W1, Vk w W1 g' c' (bs ++ xs) kx → K (a.put (some d) (.slice (some ⟨g', 0, none⟩) m c')) W1) :
    if Region.wanted o (yielded ops a.tmps) = true then Oper.wp Tryd.prog o a W K Q else E := by
  subst hn hm
  obtain ⟨g', c', W1, hrun, hm, hg, hk, hz⟩ := h.1.mine.append xs u h.2 hL
  refine vstep_append_eq hgd s x 22 ho _ _ hs hx _ W1 (by rw [hty]; exact hrun) ?_
  rw [hd]
  refine hK g' c' W1 ⟨hm, fun k e => ?_⟩
  obtain ⟨h1, h2, h3⟩ := h.1.x k e
  refine ⟨(hk k (Array.getElem?_eq_some_iff.1 h1).1 h2).trans h1, ?_, h3⟩
  rcases hg with e | e
  · rw [e]; exact h2
  · rw [e]; exact Nat.ne_of_lt (Array.getElem?_eq_some_iff.1 h1).1
end
/-- The store of a whole packet into its box. -/
theorem step_store_ip {ops : Array Oper} {o : Oper} {a : Act} {W : World} {K : Act → World → Prop} {Q : Exit → Act → World → Prop} {E : Prop} (hgd : o.guard = none) (x y : Operand) (ho : o.op = .store 27 x y)
    (k : Nat) (q : Ip) (A : Option Addr) (n c : Nat) (hx : a.eval x = .pointer (some ⟨k, 0, none⟩)) (hy : a.eval y = .agg #[.int .u8 q.tos, .int .u16 q.id, .bool q.df, .bool q.mf, .int .i64 q.off, .int .u8 q.ttl, .int .u8 q.proto, .int .u32 q.src, .int .u32 q.dst, .slice A n c])
    (hg : W.heap[k]? = some noIpObj) (hd : o.dst = none)
    (h : K (a.put none undef) (W.setRow k #[.int .u8 q.tos, .int .u16 q.id, .bool q.df, .bool q.mf, .int .i64 q.off, .int .u8 q.ttl, .int .u8 q.proto, .int .u32 q.src, .int .u32 q.dst, .slice A n c])) :
    if Region.wanted o (yielded ops a.tmps) = true then Oper.wp Tryd.prog o a W K Q else E :=
  step_store_row hgd 27 x y ho k _ hx hy _ _ hg ipSize rfl (ipLit_one q _ _ _) hd h
/-- The box behind such a store. -/
theorem ip_stored {W : World} {k : Nat} (h : W.heap[k]? = some noIpObj) (q : Ip) (u : Value) : IpAt (W.setRow k #[.int .u8 q.tos, .int .u16 q.id, .bool q.df, .bool q.mf, .int .i64 q.off, .int .u8 q.ttl, .int .u8 q.proto, .int .u32 q.src, .int .u32 q.dst, u]) k q u := setRow_heap _ _ _ _ _ _ h
/-- Parse's answer, in the spelling of the laws' walks. -/
theorem parse_of (q : Ip) (hq : q.Own) (hn : q.bad = 0) (more : List UInt8) (v : Value) (w : World) (hr : Rd w v (q.bs ++ more)) (hL : more.length ≤ 4000) :
    Calls Tryd.prog 11 #[v] w fun e w' => ∃ b, e = .returned (.tuple #[.agg #[.int .u8 q.tos, .int .u16 q.id, .bool q.df, .bool q.mf, .int .i64 q.off, .int .u8 q.ttl, .int .u8 q.proto, .int .u32 q.src, .int .u32 q.dst, .slice (some ⟨b, 0, none⟩) q.b.length q.b.length], .nilIface]) ∧
      w.heap.size ≤ b ∧ BAt w' b q.b ∧ Below w.heap.size w w' :=
  vParse_of q hq.inn hn more v w hr (by rw [List.length_append]; have := hq.bs_le; omega)
end Go.Proofs.YteglhfhkombkhaaDoor
