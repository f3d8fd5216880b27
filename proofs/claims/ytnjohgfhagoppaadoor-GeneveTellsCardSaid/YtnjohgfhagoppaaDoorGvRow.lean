/-
  What is proved: options in a row of one's own, each with bytes of its own; one more behind them.
  Conditions: fewer than a million options.
-/
import Derived.Test.YtnjohgfhagoppaaDoorGvOpt
import Derived.OwnWalk
import Derived.Maps.AppendAt
namespace Go.Proofs.YtnjohgfhagoppaaDoor
open Go.RowKit

/-- An option with its raw slice. -/
structure Ox where
  p : Op
  B : Option Addr
  k : Nat
def Ox.sl (x : Ox) : Value := .slice x.B x.p.b.length x.k
def Ox.row (x : Ox) : List Value := [.int .u16 x.p.c, .int .u8 x.p.t, x.sl]
theorem ox_len (l : List Ox) : (l.flatMap Ox.row).length = l.length * 3 := by
  induction l with
  | nil => rfl
  | cons x l ih => rw [List.flatMap_cons, List.length_append, ih, List.length_cons]; show 3 + _ = _; omega
theorem ox_get : ∀ (l : List Ox) (k j : Nat) (x : Ox), l[k]? = some x → j < 3 → (l.flatMap Ox.row)[k * 3 + j]? = x.row[j]?
  | [], k, j, x, h, _ => by simp at h
  | y :: l, 0, j, x, h, hj => by
    obtain rfl : y = x := by simpa using h
    rw [List.flatMap_cons, List.getElem?_append_left (by show _ < 3; omega)]
    congr 1
    omega
  | y :: l, k + 1, j, x, h, hj => by
    rw [List.flatMap_cons, List.getElem?_append_right (by show 3 ≤ _; omega)]
    show (l.flatMap Ox.row)[(k + 1) * 3 + j - 3]? = _
    have := ox_get l k j x (by simpa using h) hj
    rw [← this]
    congr 1
    omega
section
variable {w w' : World} {B : Nat} {e : TypeId} {s : Nat} {v : Value} {k : Nat} {xs : List Value}
theorem gowns_at (h : w.ownsRow B e s v k xs) (hv : ∀ g, v.ownBlock = some g → w'.heap[g]? = w.heap[g]?) : w'.ownsRow B e s v k xs := by
  refine ⟨h.1, ?_⟩
  rcases h.2 with h1 | ⟨g, cap, cur, rfl, hb, hg, r⟩
  · exact .inl h1
  · exact .inr ⟨g, cap, cur, rfl, hb, (hv g rfl).trans hg, r⟩
theorem gown_ne (h : w.ownsRow B e s v k xs) {q : Nat} {c : Array Value} {e' : TypeId} {fr : Nat × Nat} (hq : w.heap[q]? = some (.cells c e' fr)) (hne : e ≠ e') : v.ownBlock ≠ some q := by
  intro hv
  rcases h.2 with ⟨rfl, _⟩ | ⟨g, cap, cur, rfl, _, hg, _⟩
  · cases hv
  · cases hv
    rw [hg] at hq
    exact hne (Obj.cells.inj (Option.some.inj hq)).2.1
theorem gown_block (h : w.ownsRow B e s v k xs) {q : Nat} (hv : v.ownBlock = some q) : ∃ c, w.heap[q]? = some (.cells c e (0, 0)) := by
  rcases h.2 with ⟨rfl, _⟩ | ⟨g, cap, cur, rfl, _, hg, _⟩
  · cases hv
  · cases hv
    exact ⟨_, hg⟩
theorem gowns_base {B' : Nat} (h : w.ownsRow B e s v k xs) (hb : B' ≤ B) : w.ownsRow B' e s v k xs := by
  refine ⟨h.1, ?_⟩
  rcases h.2 with h1 | ⟨g, cap, cur, hv, h2, r⟩
  · exact .inl h1
  · exact .inr ⟨g, cap, cur, hv, Nat.le_trans hb h2, r⟩
end
theorem gown_shape {w : World} {B : Nat} {e : TypeId} {s : Nat} {v : Value} {k : Nat} {xs : List Value} (h : w.ownsRow B e s v k xs) : ∃ A c, v = .slice A k c ∧ k ≤ c ∧ c ≤ maxLen ∧ ∀ i u, xs[i]? = some u → ∃ g, A = some ⟨g, 0, none⟩ ∧ B ≤ g ∧ w.cell? ⟨g, i, none⟩ = some u := by
  have hc := fun g hg => h.cells (g := g) hg
  rcases h.2 with ⟨rfl, rfl⟩ | ⟨g, cap, cur, rfl, hb, hg, h1, h2, _⟩
  · refine ⟨none, 0, rfl, Nat.le_refl _, Nat.zero_le _, fun i u hu => ?_⟩
    have hx : xs = [] := List.eq_nil_of_length_eq_zero (by rw [h.1]; omega)
    rw [hx] at hu
    simp at hu
  · refine ⟨_, cap, rfl, h1, h2, fun i u hu => ⟨g, rfl, hb, ?_⟩⟩
    have := hc g rfl i u hu
    rw [Addr.add_lit, Nat.zero_add] at this
    exact this
theorem gown_rd {w : World} {B : Nat} {v : Value} {x : List UInt8} (h : w.ownsRow B 5 1 v x.length (x.map B8)) : Rd w v x := by
  obtain ⟨A, c, rfl, h1, _, h3⟩ := gown_shape h
  refine ⟨A, c, rfl, h1, fun h0 => ?_⟩
  obtain ⟨g, rfl, _, _⟩ := h3 0 (B8 (x[0]'h0)) (by rw [List.getElem?_map, List.getElem?_eq_getElem h0]; rfl)
  refine ⟨g, 0, rfl, fun i u hu => ?_⟩
  obtain ⟨g', e, _, hc⟩ := h3 i (B8 u) (by rw [List.getElem?_map, hu]; rfl)
  cases e
  rw [Nat.zero_add]
  exact hc
theorem gopTy_ne : (5 : TypeId) ≠ 50 := by decide
theorem gop_info : (Tryd.prog.info? 50).map (fun i => (i.zero, i.size, i.bytes)) = some (some (.agg #[.int .u16 0, .int .u8 0, .slice none 0 0]), 3, 32) := by kernel_rfl
/-- Options that were laid from the block n on. -/
structure Oq (n : Nat) (W : World) (sv : Value) (l : List Ox) : Prop where
  row : W.ownsRow n 50 3 sv l.length (l.flatMap Ox.row)
  own : ∀ x ∈ l, W.ownsRow n 5 1 x.sl x.p.b.length (x.p.b.map B8)
  apart : l.Pairwise fun x y => ∀ g, x.sl.ownBlock = some g → y.sl.ownBlock ≠ some g
section
variable {n m : Nat} {w0 W W' : World} {sv sv' : Value} {l : List Ox} {x : Ox}
theorem Oq.nil (n : Nat) (W : World) : Oq n W (.slice none 0 0) [] := ⟨World.ownsRow_nil _ _ _ _, fun _ h => (by cases h), List.Pairwise.nil⟩
theorem Oq.mono (h : Oq n W sv l) (hm : m ≤ n) : Oq m W sv l := ⟨gowns_base h.row hm, fun x hx => gowns_base (h.own x hx) hm, h.apart⟩
/-- Where the blocks are as they were. -/
theorem Oq.at (h : Oq n W sv l) (hk : ∀ k, n ≤ k → k < W.heap.size → W'.heap[k]? = W.heap[k]?) : Oq n W' sv l :=
  ⟨gowns_at h.row (fun g hg => hk g (h.row.lt g hg).1 (h.row.lt g hg).2), fun x hx => gowns_at (h.own x hx) (fun g hg => hk g ((h.own x hx).lt g hg).1 ((h.own x hx).lt g hg).2), h.apart⟩
theorem Oq.below (h : Oq n W sv l) (hb : Below W.heap.size W W') : Oq n W' sv l := h.at fun k _ hk => hb.block k hk
theorem Oq.fr {q : Addr → Prop} (h : Oq n W sv l) (hf : Fr q W W') (hq : ∀ a, q a → a.block < n) : Oq n W' sv l := h.at fun k hn hk => hf.block k hk fun a ha e => by have := hq a ha; omega
theorem Oq.ops (h : Oq n W sv l) : ∃ A c, sv = .slice A (l.map Ox.p).length c ∧ (l.map Ox.p).length ≤ c ∧ c ≤ maxLen ∧ OpsAt W A (l.map Ox.p) := by
  obtain ⟨A, c, e, h1, h2, h3⟩ := gown_shape h.row
  refine ⟨A, c, by rw [e, List.length_map], by rw [List.length_map]; exact h1, h2, fun k x hk => ?_⟩
  rw [List.getElem?_map] at hk
  obtain ⟨y, hy, rfl⟩ := Option.map_eq_some_iff.1 hk
  have hc : ∀ j u, j < 3 → y.row[j]? = some u → ∃ g, A = some ⟨g, 0, none⟩ ∧ n ≤ g ∧ W.cell? ⟨g, k * 3 + j, none⟩ = some u := fun j u hj hu => h3 (k * 3 + j) u (by rw [ox_get l k j y hy hj]; exact hu)
  obtain ⟨g, hA, _, c0⟩ := hc 0 _ (by omega) rfl
  obtain ⟨g1, e1, _, c1⟩ := hc 1 _ (by omega) rfl
  obtain ⟨g2, e2, _, c2⟩ := hc 2 _ (by omega) rfl
  rw [hA] at e1 e2
  cases e1
  cases e2
  have ho := h.own y (List.mem_of_getElem? hy)
  have hsz : y.k ≤ 9223372036854775807 := by
    obtain ⟨A2, c2, e2, _, h22, _⟩ := gown_shape ho
    unfold Ox.sl at e2
    simp only [Value.slice.injEq] at e2
    rw [e2.2.2]
    exact h22
  exact ⟨g, 0, y.B, y.k, hA, ⟨by rw [Nat.zero_add]; exact c0, by rw [Nat.zero_add]; exact c1, by rw [Nat.zero_add]; exact c2⟩, hsz, gown_rd ho⟩
/-- One more. -/
theorem Oq.push (h : Oq n W sv l) {X c : Nat} (hX : W.heap[X]? = some (.cells (opRow x.p.c x.p.t x.sl) 50 (0, 0))) (hx : W.ownsRow n 5 1 x.sl x.p.b.length (x.p.b.map B8)) (hne : ∀ y ∈ l, ∀ g, y.sl.ownBlock = some g → x.sl.ownBlock ≠ some g) (hfew : l.length < 1000000) (hn : n ≤ W.heap.size) (ty : TypeId) :
    ∃ sv' W', (Builtin.append_ #[39, 39] ty #[sv, .slice (some ⟨X, 0, none⟩) 1 c]).run Tryd.prog W = .ok sv' W' ∧ Oq n W' sv' (l ++ [x]) ∧ W.grownBy W' sv.ownBlock := by
  obtain ⟨i0, hi, hz0, hz1, hz2⟩ := info_parts gop_info
  obtain ⟨v', w1, hrun, ho1, hg, _, hat⟩ := run_append_own_at (P := Tryd.prog) W n 39 ty 50 i0 _ 3 32 Tryd.underlying39 hi hz0 hz1 hz2 rfl (by omega) sv l.length _ h.row ⟨X, 0, none⟩ 1 c x.row rfl
    (fun j u hu => by
      rw [Addr.add_lit]
      have hc := cell_of_row W X (0 + j) _ _ _ hX
      rw [hc, Nat.zero_add]
      rw [← Array.getElem?_toList]
      exact hu) (fun u hu => by
        have h1 := opRow_one x.p.c x.p.t x.B x.p.b.length x.k
        rw [Array.all_eq_true_iff_forall_mem] at h1
        exact h1 u (by simpa [opRow, Ox.row, Ox.sl] using hu)) (by simp only [maxLen]; omega) (by omega) hn
  have keep : ∀ {y : Ox}, W.ownsRow n 5 1 y.sl y.p.b.length (y.p.b.map B8) → w1.ownsRow n 5 1 y.sl y.p.b.length (y.p.b.map B8) := fun {y} hy => gowns_at hy (fun g hgy => by
    obtain ⟨cc, hcc⟩ := gown_block hy hgy
    exact hg.block g (hy.lt g hgy).2 (fun e => gown_ne h.row hcc gopTy_ne.symm e.symm))
  refine ⟨v', w1, hrun, ⟨?_, fun y hy => ?_, ?_⟩, hg⟩
  · rw [List.length_append, List.flatMap_append]
    simpa using ho1
  · rcases List.mem_append.1 hy with hy | hy
    · exact keep (h.own y hy)
    · rw [List.mem_singleton.1 hy]; exact keep hx
  · exact List.pairwise_append.2 ⟨h.apart, List.pairwise_singleton _ _, fun a ha b hb g hg => by rw [List.mem_singleton.1 hb]; exact hne a ha g hg⟩
end
theorem RdrG.of_Read (w : World) (bs : List UInt8) : RdrG ((w.alloc (bytesObj bs)).alloc (.cells #[.slice (some ⟨w.heap.size, 0, none⟩) bs.length bs.length] 97)) ⟨w.heap.size + 1, 0, none⟩ w.heap.size bs := by
  refine ⟨some ⟨w.heap.size, 0, none⟩, ?_, ?_, fun _ => ⟨0, rfl, fun i u hu => ?_⟩⟩
  · rw [World.cell?_alloc_at _ _ _ _ (by simp)]; rfl
  · simp
  · rw [World.cell?_alloc_lt _ _ _ (by simp), Nat.zero_add]
    exact bytesCell (bytesObj_new w bs) i u hu
/-- How many bytes a reader has left. -/
def lenAt (W : World) (p : Addr) : Nat := match W.cell? p with
  | some (.slice _ n _) => n
  | _ => 0
theorem RdrG.len {W : World} {p : Addr} {g : Nat} {bs : List UInt8} (h : RdrG W p g bs) : lenAt W p = bs.length := by
  obtain ⟨A, h1, _⟩ := h
  unfold lenAt
  rw [h1]
end Go.Proofs.YtnjohgfhagoppaaDoor
