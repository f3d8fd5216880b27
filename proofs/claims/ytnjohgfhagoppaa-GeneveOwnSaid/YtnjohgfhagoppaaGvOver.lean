/-
  What is proved: blocks of one's own that are written over, and what stays beside them.
  Conditions: none of its own.
-/
import Derived.Test.YtnjohgfhagoppaaGvRow
namespace Go.Proofs.Ytnjohgfhagoppaa
open Go.RowKit

/-- Of what was there nothing is another one but the blocks F. -/
structure Wg (w w' : World) (F : Nat → Prop) : Prop where
  os : w'.os = w.os
  tape : w'.tape = w.tape
  output : w'.output = w.output
  size : w.heap.size ≤ w'.heap.size
  block : ∀ k, k < w.heap.size → ¬ F k → w'.heap[k]? = w.heap[k]?
section
variable {w w' w2 : World} {F : Nat → Prop}
theorem Wg.refl (w : World) (F : Nat → Prop) : Wg w w F := ⟨rfl, rfl, rfl, Nat.le_refl _, fun _ _ _ => rfl⟩
theorem Wg.to (h : Wg w w' F) (hb : Below w'.heap.size w' w2) : Wg w w2 F :=
  ⟨hb.os.trans h.os, hb.tape.trans h.tape, hb.output.trans h.output, Nat.le_trans h.size hb.size, fun k hk hn => (hb.block k (Nat.lt_of_lt_of_le hk h.size)).trans (h.block k hk hn)⟩
theorem Wg.set (h : Wg w w' F) {g : Nat} (hF : F g) (i : Nat) (v : Value) : Wg w (w'.setCell ⟨g, i, none⟩ v) F :=
  ⟨h.os, h.tape, h.output, by simpa using h.size, fun k hk hn => (Below.heap_setCell _ _ _ _ (fun e => hn (by have e' : k = g := e; rw [e']; exact hF))).trans (h.block k hk hn)⟩
theorem Wg.base {w0 : World} (h : Wg w w' F) (hb : Below w0.heap.size w0 w) (hF : ∀ k, F k → w0.heap.size ≤ k) : Below w0.heap.size w0 w' :=
  ⟨h.os.trans hb.os, h.tape.trans hb.tape, h.output.trans hb.output, Nat.le_trans hb.size h.size, fun k hk => (h.block k (Nat.lt_of_lt_of_le hk hb.size) (fun e => by have := hF k e; omega)).trans (hb.block k hk)⟩
end
/-- A row of bytes, one of which is written. -/
theorem gowns_set {W : World} {n m : Nat} {v : Value} {ys : List UInt8} (h : W.ownsRow n 5 1 v m (ys.map B8)) {g : Nat} (hg : v.ownBlock = some g) (k : Nat) (u : UInt8) : (W.setCell ⟨g, k, none⟩ (B8 u)).ownsRow n 5 1 v m ((ys.set k u).map B8) := by
  rcases h.2 with ⟨rfl, _⟩ | ⟨g', cap, cur, rfl, hb, hgg, h1, h2, h3, h4⟩
  · cases hg
  · cases hg
    refine ⟨by rw [List.length_map, List.length_set, ← List.length_map (f := B8)]; exact h.1, .inr ⟨g', cap, cur.setIfInBounds k (B8 u), rfl, hb, ?_, h1, h2, by simpa using h3, ?_⟩⟩
    · simp [World.setCell, Array.getElem?_modify, hgg]
    · rw [Array.toList_setIfInBounds, List.take_set, h4, List.map_set]
/-- All of the options' bytes may be written over. -/
def GAll (n : Nat) (lx : List Ox) (W : World) : Prop := ∀ x ∈ lx, ∃ ys : List UInt8, ys.length = x.p.b.length ∧ W.ownsRow n 5 1 x.sl x.p.b.length (ys.map B8)
/-- The blocks of the options' bytes. -/
def GF (lx : List Ox) (k : Nat) : Prop := ∃ x ∈ lx, x.sl.ownBlock = some k
section
variable {n : Nat} {W W' : World} {sv : Value} {lx : List Ox}
theorem Oq.all (h : Oq n W sv lx) : GAll n lx W := fun x hx => ⟨x.p.b, rfl, h.own x hx⟩
theorem GAll.set (h : GAll n lx W) {g : Nat} (k : Nat) (u : UInt8) : GAll n lx (W.setCell ⟨g, k, none⟩ (B8 u)) := fun x hx => by
  obtain ⟨ys, h1, h2⟩ := h x hx
  by_cases hg : x.sl.ownBlock = some g
  · exact ⟨ys.set k u, by rw [List.length_set]; exact h1, gowns_set h2 hg k u⟩
  · exact ⟨ys, h1, gowns_at h2 fun g' hg' => Below.heap_setCell _ _ _ _ (fun e => hg (by have e' : g' = g := e; rw [← e']; exact hg'))⟩
theorem GAll.below (h : GAll n lx W) (hb : Below W.heap.size W W') : GAll n lx W' := fun x hx => by
  obtain ⟨ys, h1, h2⟩ := h x hx
  exact ⟨ys, h1, gowns_at h2 fun g hg => hb.block g (h2.lt g hg).2⟩
/-- A byte of one. -/
theorem GAll.byte (h : GAll n lx W) {x : Ox} (hx : x ∈ lx) {j : Nat} (hj : j < x.p.b.length) : ∃ g u, x.B = some ⟨g, 0, none⟩ ∧ x.sl.ownBlock = some g ∧ W.cell? ⟨g, j, none⟩ = some (.int .u8 ((u : UInt8).toNat : Int)) ∧ W.frozen? ⟨g, j, none⟩ = false := by
  obtain ⟨ys, h1, h2⟩ := h x hx
  obtain ⟨A, c, e, _, _, h3⟩ := gown_shape h2
  obtain ⟨g, hA, _, hc⟩ := h3 j (B8 (ys[j]'(by omega))) (by rw [List.getElem?_map, List.getElem?_eq_getElem (by omega)]; rfl)
  have e1 : x.B = A := by unfold Ox.sl at e; simp only [Value.slice.injEq] at e; exact e.1
  have e2 : x.sl.ownBlock = some g := by unfold Ox.sl; rw [e1, hA]; rfl
  obtain ⟨cc, hcc⟩ := gown_block h2 e2
  exact ⟨g, ys[j]'(by omega), by rw [e1, hA], e2, hc, by simp [World.frozen?, hcc]⟩
/-- Where an option's slice stands. -/
theorem Oq.spot {A : Option Addr} {m c : Nat} (h : Oq n W (.slice A m c) lx) {k : Nat} {x : Ox} (hk : lx[k]? = some x) : ∃ g, A = some ⟨g, 0, none⟩ ∧ W.cell? ⟨g, k * 3 + 2, none⟩ = some (.slice x.B x.p.b.length x.k) ∧ n ≤ g ∧ g < W.heap.size ∧ ¬ GF lx g := by
  obtain ⟨A', c', e, _, _, h3⟩ := gown_shape h.row
  simp only [Value.slice.injEq] at e
  obtain ⟨g, hA, hb, hc⟩ := h3 (k * 3 + 2) x.sl (by rw [ox_get lx k 2 x hk (by omega)]; rfl)
  have hA2 : A = some ⟨g, 0, none⟩ := e.1.trans hA
  refine ⟨g, hA2, hc, hb, World.block_lt_of_cell? W _ hc, ?_⟩
  rintro ⟨y, hy, hyg⟩
  obtain ⟨cc, hcc⟩ := gown_block h.row (q := g) (by rw [hA2]; rfl)
  exact gown_ne (h.own y hy) hcc gopTy_ne hyg
end
/-- A block of 'N' bytes, whatever they are; all other blocks are as they were. -/
structure Ovg (w : World) (g N : Nat) (W : World) : Prop where
  ex : ∃ ys : List UInt8, ys.length = N ∧ W.heap[g]? = some (bytesObj ys)
  fr : Fr (fun x => x.block = g) w W
section
variable {w W : World} {g N : Nat}
theorem Ovg.start {l : List UInt8} (h : w.heap[g]? = some (bytesObj l)) (hl : l.length = N) : Ovg w g N w := ⟨⟨l, hl, h⟩, Fr.refl _ _⟩
theorem Ovg.cell (h : Ovg w g N W) {i : Nat} (hi : i < N) : ∃ u : UInt8, W.cell? ⟨g, i, none⟩ = some (.int .u8 (u.toNat : Int)) := by
  obtain ⟨ys, hl, hg⟩ := h.ex
  exact ⟨_, bytesCell hg i ys[i] (List.getElem?_eq_getElem (by omega))⟩
theorem Ovg.free (h : Ovg w g N W) (i : Nat) : W.frozen? ⟨g, i, none⟩ = false := by
  obtain ⟨ys, hl, hg⟩ := h.ex
  unfold bytesObj at hg
  simp [World.frozen?, hg]
theorem Ovg.set (h : Ovg w g N W) (i : Nat) (x : UInt8) : Ovg w g N (W.setCell ⟨g, i, none⟩ (B8 x)) := by
  obtain ⟨ys, hl, hg⟩ := h.ex
  refine ⟨⟨ys.set i x, by simpa using hl, ?_⟩, h.fr.set _ _ rfl⟩
  simp [World.setCell, Array.getElem?_modify, hg, bytesObj, List.map_set]
theorem Ovg.other (h : Ovg w g N W) {k : Nat} {o : Obj} (hk : k ≠ g) (ho : w.heap[k]? = some o) : W.heap[k]? = some o :=
  (h.fr.block k (Array.getElem?_eq_some_iff.1 ho).1 (fun _ hx e => hk (e.symm.trans hx))).trans ho
theorem Ovg.row (h : Ovg w g N W) {k c : Nat} {l : List UInt8} (hk : k ≠ g) (hr : Row w k c l) : Row W k c l := by
  obtain ⟨cur, h1, h2, h3⟩ := hr.ex
  exact ⟨⟨cur, h.other hk h1, h2, h3⟩, hr.fits⟩
theorem Ovg.below (h : Ovg w g N W) {B : Nat} (hB : B ≤ w.heap.size) (hg : B ≤ g) : Below B w W := h.fr.below hB (fun x hx => by have : x.block = g := hx; omega)
theorem Ovg.oq (h : Ovg w g N W) {n : Nat} {sv : Value} {lx : List Ox} (hq : Oq n w sv lx) (hg : g < n) : Oq n W sv lx := hq.at fun k hk hl => h.fr.block k hl fun a ha e => by have : a.block = g := ha; omega
end
theorem Wg.row {w W : World} {F : Nat → Prop} (h : Wg w W F) {k c : Nat} {l : List UInt8} (hk : ¬ F k) (hr : Row w k c l) : Row W k c l := by
  obtain ⟨cur, h1, h2, h3⟩ := hr.ex
  exact ⟨⟨cur, (h.block k (Array.getElem?_eq_some_iff.1 h1).1 hk).trans h1, h2, h3⟩, hr.fits⟩
theorem gxor255 (u : UInt8) : ∃ x : UInt8, bits .xor .u8 (u.toNat : Int) 255 = (x.toNat : Int) := by
  have h := u8_xor_nat u.toNat 255 u.toNat_lt (by omega)
  have hx : u.toNat ^^^ 255 < 2 ^ 8 := Nat.xor_lt_two_pow u.toNat_lt (by omega)
  exact ⟨UInt8.ofNat (u.toNat ^^^ 255), by rw [show (255 : Int) = ((255 : Nat) : Int) from rfl, h, ofNat_lt]; omega⟩
theorem gxlow (n : Nat) (hn : n < 4294967296) : bits .and .u32 (n : Int) 16777215 = ((n % 16777216 : Nat) : Int) := by
  rw [show (16777215 : Int) = ((16777215 : Nat) : Int) from rfl, u32_and_nat n 16777215 hn (by omega)]
  have h := Nat.and_two_pow_sub_one_eq_mod n 24
  rw [show (2 : Nat) ^ 24 - 1 = 16777215 by decide, show (2 : Nat) ^ 24 = 16777216 by decide] at h
  rw [h]
end Go.Proofs.Ytnjohgfhagoppaa
