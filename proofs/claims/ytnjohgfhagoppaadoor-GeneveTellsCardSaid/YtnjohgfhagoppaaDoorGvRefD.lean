/-
  What is proved: the document's Decap of layer 12 by contract.
  Conditions: the bytes are fewer than 2^39.
-/
import Derived.Test.YtnjohgfhagoppaaDoorGvRefE
import Derived.Deep.RegionLaw
import Derived.BigQuiet
import Derived.Deep.QuietTactic
namespace Go.Proofs.YtnjohgfhagoppaaDoor
open Go.RowKit

theorem gstep_append_eq {P : Program} {ops : Array Oper} {o : Oper} {a : Act} {w : World} {K : Act → World → Prop} {Q : Exit → Act → World → Prop} {E : Prop} (hgd : o.guard = none) (s x : Operand) (t : TypeId)
    (ho : o.op = .call { callee := .builtin .append, args := #[s, x], argTypes := #[t, t] }) (v1 v2 : Value) (hs : a.eval s = v1) (hx : a.eval x = v2) (v' : Value) (w' : World)
    (hrun : (Builtin.append_ #[t, t] o.type #[v1, v2]).run P w = .ok v' w') (h : K (a.put o.dst v') w') :
    if Region.wanted o (yielded ops a.tmps) = true then Oper.wp P o a w K Q else E := by
  have hw : Region.wanted o (yielded ops a.tmps) = true := by simp [Region.wanted, hgd]
  rw [if_pos hw]
  unfold Oper.wp execOp
  simp only [ho, resolve, invoke, builtin, Sem.run_bind, Sem.run_pure, Result.andThen_ok, List.map_toArray, List.map_cons, List.map_nil, hs, hx, hrun]
  exact h
theorem gstep_append_ex {P : Program} {ops : Array Oper} {o : Oper} {a : Act} {w : World} {K : Act → World → Prop} {Q : Exit → Act → World → Prop} {E : Prop} (hgd : o.guard = none) (s x : Operand) (t : TypeId)
    (ho : o.op = .call { callee := .builtin .append, args := #[s, x], argTypes := #[t, t] }) (v1 v2 : Value) (hs : a.eval s = v1) (hx : a.eval x = v2)
    (h : ∃ v' w', (Builtin.append_ #[t, t] o.type #[v1, v2]).run P w = .ok v' w' ∧ K (a.put o.dst v') w') :
    if Region.wanted o (yielded ops a.tmps) = true then Oper.wp P o a w K Q else E := by
  obtain ⟨v', w', hrun, hK⟩ := h
  exact gstep_append_eq hgd s x t ho v1 v2 hs hx v' w' hrun hK
/-- []byte(s): a new row with the text's bytes. -/
theorem gbytes_of_txt (W : World) (bs : List UInt8) (hs : bs.length ≤ 1000000) : ∃ c W1, (convert 9 23 (.string (txt bs))).run Tryd.prog W = .ok (.slice (some ⟨W.heap.size, 0, none⟩) bs.length c) W1 ∧ Rd W1 (.slice (some ⟨W.heap.size, 0, none⟩) bs.length c) bs ∧ Below W.heap.size W W1 ∧ (∃ cc fr, W1.heap[W.heap.size]? = some (.cells cc 5 fr)) ∧ c ≤ maxLen := by
  have h := run_bytes_of_string (P := Tryd.prog) W 9 23 5 (txt bs) Tryd.underlying9 Tryd.underlying23 Tryd.underlying5
  rw [txt_size] at h
  have h2 := heap_alloc_new W.drew (.cells (bytesRow (txt bs) (grownCap W bs.length 0 5)) 5 ((bytesRow (txt bs) (grownCap W bs.length 0 5)).size, (bytesRow (txt bs) (grownCap W bs.length 0 5)).size + 1))
  rw [World.size_drew] at h2
  refine ⟨_, _, h, ⟨_, _, rfl, ?_, fun _ => ⟨_, 0, rfl, fun i u hu => ?_⟩⟩, (Below.refl _ _).drew.alloc (Nat.le_refl _) _, ⟨_, _, h2⟩, grownCap_le_maxLen W bs.length 0 5 (by simp only [maxLen]; omega)⟩
  · exact grownCap_ge ..
  · have hl : i < bs.length := (List.getElem?_eq_some_iff.1 hu).1
    have h1 := World.cell?_alloc_mark W.drew (bytesRow (txt bs) (grownCap W bs.length 0 5)) 5 ((bytesRow (txt bs) (grownCap W bs.length 0 5)).size, (bytesRow (txt bs) (grownCap W bs.length 0 5)).size + 1) i
    rw [World.size_drew] at h1
    rw [Nat.zero_add, h1, bytesRow_at _ _ _ (by simpa [txt] using hl)]
    have e : (txt bs).data[i]'(by simpa [txt] using hl) = u := by
      rw [List.getElem?_eq_getElem hl] at hu
      simpa [txt] using Option.some.inj hu
    rw [e]
    rfl
/-- Options in a row of one's own, with bytes in blocks of bytes. -/
structure Rq (n : Nat) (W : World) (sv : Value) (l : List Ox) : Prop where
  row : W.ownsRow n 50 3 sv l.length (l.flatMap Ox.row)
  rd : ∀ x ∈ l, Rd W x.sl x.p.b ∧ x.k ≤ 9223372036854775807 ∧ ∀ g, x.sl.ownBlock = some g → ∃ c fr, W.heap[g]? = some (.cells c 5 fr)
theorem rd_of_block {w w' : World} {A : Option Addr} {n c : Nat} {bs : List UInt8} (h : Rd w (.slice A n c) bs) (hb : ∀ g, (Value.slice A n c).ownBlock = some g → w'.heap[g]? = w.heap[g]?) : Rd w' (.slice A n c) bs := by
  obtain ⟨A', d, e, hd, hr⟩ := h
  refine ⟨A', d, e, hd, fun h0 => ?_⟩
  obtain ⟨g, o, e2, hk⟩ := hr h0
  subst e2
  cases e
  exact ⟨g, o, rfl, fun i u hi => (World.cell?_of_block (hb g rfl)).trans (hk i u hi)⟩
section
variable {n : Nat} {W W' : World} {sv : Value} {l : List Ox} {x : Ox}
theorem Rq.nil (n : Nat) (W : World) : Rq n W (.slice none 0 0) [] := ⟨World.ownsRow_nil _ _ _ _, fun _ h => (by cases h)⟩
theorem Rq.below (h : Rq n W sv l) (hb : Below W.heap.size W W') : Rq n W' sv l :=
  ⟨gowns_at h.row (fun g hg => hb.block g (h.row.lt g hg).2), fun x hx => by
    obtain ⟨h1, h2, h3⟩ := h.rd x hx
    exact ⟨h1.below hb, h2, fun g hg => by obtain ⟨c, fr, e⟩ := h3 g hg; exact ⟨c, fr, (hb.block g (Array.getElem?_eq_some_iff.1 e).1).trans e⟩⟩⟩
theorem Rq.ops (h : Rq n W sv l) : ∃ A c, sv = .slice A (l.map Ox.p).length c ∧ OpsAt W A (l.map Ox.p) := by
  obtain ⟨A, c, e, h1, h2, h3⟩ := gown_shape h.row
  refine ⟨A, c, by rw [e, List.length_map], fun k x hk => ?_⟩
  rw [List.getElem?_map] at hk
  obtain ⟨y, hy, rfl⟩ := Option.map_eq_some_iff.1 hk
  have hc : ∀ j u, j < 3 → y.row[j]? = some u → ∃ g, A = some ⟨g, 0, none⟩ ∧ n ≤ g ∧ W.cell? ⟨g, k * 3 + j, none⟩ = some u := fun j u hj hu => h3 (k * 3 + j) u (by rw [ox_get l k j y hy hj]; exact hu)
  obtain ⟨g, hA, _, c0⟩ := hc 0 _ (by omega) rfl
  obtain ⟨g1, e1, _, c1⟩ := hc 1 _ (by omega) rfl
  obtain ⟨g2, e2, _, c2⟩ := hc 2 _ (by omega) rfl
  rw [hA] at e1 e2
  cases e1
  cases e2
  have ho := h.rd y (List.mem_of_getElem? hy)
  exact ⟨g, 0, y.B, y.k, hA, ⟨by rw [Nat.zero_add]; exact c0, by rw [Nat.zero_add]; exact c1, by rw [Nat.zero_add]; exact c2⟩, ho.2.1, ho.1⟩
/-- One more. -/
theorem Rq.push (h : Rq n W sv l) {X c : Nat} (hX : W.heap[X]? = some (.cells (opRow x.p.c x.p.t x.sl) 50 (0, 0))) (hx : Rd W x.sl x.p.b ∧ x.k ≤ 9223372036854775807 ∧ ∀ g, x.sl.ownBlock = some g → ∃ c fr, W.heap[g]? = some (.cells c 5 fr)) (hfew : l.length < 1000000) (hn : n ≤ W.heap.size) (ty : TypeId) :
    ∃ sv' W', (Builtin.append_ #[39, 39] ty #[sv, .slice (some ⟨X, 0, none⟩) 1 c]).run Tryd.prog W = .ok sv' W' ∧ Rq n W' sv' (l ++ [x]) ∧ Below n W W' := by
  obtain ⟨i0, hi, hz0, hz1, hz2⟩ := info_parts gop_info
  obtain ⟨v', w1, hrun, ho1, hg, _, hat⟩ := run_append_own_at (P := Tryd.prog) W n 39 ty 50 i0 _ 3 32 Tryd.underlying39 hi hz0 hz1 hz2 rfl (by omega) sv l.length _ h.row ⟨X, 0, none⟩ 1 c x.row rfl
    (fun j u hu => by
      rw [Addr.add_lit]
      have hc := cell_of_row W X (0 + j) _ _ _ hX
      rw [hc, Nat.zero_add]
      rw [← Array.getElem?_toList]
      exact hu) (fun u hu => by
        have h1 := opRow_one x.p.c x.p.t x.B x.p.b.length x.k
        rw [Array.all_eq_true_iff_forall_mem] at h1
        exact h1 u (by simpa [opRow, Ox.row, Ox.sl] using hu)) (by simp only [maxLen]; omega) (by omega) hn
  have keep : ∀ {y : Ox}, (Rd W y.sl y.p.b ∧ y.k ≤ 9223372036854775807 ∧ ∀ g, y.sl.ownBlock = some g → ∃ c fr, W.heap[g]? = some (.cells c 5 fr)) → (Rd w1 y.sl y.p.b ∧ y.k ≤ 9223372036854775807 ∧ ∀ g, y.sl.ownBlock = some g → ∃ c fr, w1.heap[g]? = some (.cells c 5 fr)) := fun {y} ⟨h1, h2, h3⟩ => by
    have hk : ∀ g, y.sl.ownBlock = some g → w1.heap[g]? = W.heap[g]? := fun g hgy => by
      obtain ⟨cc, fr, hcc⟩ := h3 g hgy
      exact hg.block g (Array.getElem?_eq_some_iff.1 hcc).1 (fun e => gown_ne h.row hcc gopTy_ne.symm e.symm)
    exact ⟨rd_of_block h1 hk, h2, fun g hgy => by obtain ⟨cc, fr, hcc⟩ := h3 g hgy; exact ⟨cc, fr, (hk g hgy).trans hcc⟩⟩
  refine ⟨v', w1, hrun, ⟨?_, fun y hy => ?_⟩, (Below.refl n W).grown hg hn (fun k hk => (h.row.lt k hk).1)⟩
  · rw [List.length_append, List.flatMap_append]
    simpa using ho1
  · rcases List.mem_append.1 hy with hy | hy
    · exact keep (h.rd y hy)
    · rw [List.mem_singleton.1 hy]; exact keep hx
end
end Go.Proofs.YtnjohgfhagoppaaDoor
