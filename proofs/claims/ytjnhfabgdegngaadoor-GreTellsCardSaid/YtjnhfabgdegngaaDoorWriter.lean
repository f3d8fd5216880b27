/-
  What is proved: the writer of octets (A2) by contract: U8, U16, U32, Bytes, Done.
  Conditions: the writer has written fewer than 2^40 bytes.
-/
import Derived.Test.YtjnhfabgdegngaaDoorTakes
import Derived.Maps.AppendAt
namespace Go.Proofs.YtjnhfabgdegngaaDoor
open Go.RowKit

/-- At 'p' lies a writer that has written 'bs', in the block 'row' (none: it has written nothing). -/
def Wtr (w : World) (p : Addr) (row : Option Nat) (bs : List UInt8) : Prop :=
  ∃ v, w.cell? p = some v ∧ w.frozen? p = false ∧ w.ownsRow 0 5 1 v bs.length (bs.map B8) ∧ v.ownBlock = row ∧ row ≠ some p.block
/-- What a writer may write to. -/
def WtrAt (p : Addr) (row : Option Nat) (a : Addr) : Prop := a = p ∨ some a.block = row
/-- The same block as before, or a new one. -/
def Later (w : World) (row row' : Option Nat) : Prop := row' = row ∨ ∃ k, row' = some k ∧ w.heap.size ≤ k

section
variable {w w' : World} {p : Addr} {row row' row2 : Option Nat} {bs : List UInt8} {q : Addr → Prop}
theorem Wtr.at_ (h : Wtr w p row bs) : p.block < w.heap.size := by obtain ⟨v, hc, _⟩ := h; exact World.block_lt_of_cell? w p hc
theorem Wtr.row_lt (h : Wtr w p row bs) : ∀ k, row = some k → k < w.heap.size := by
  obtain ⟨v, _, _, ho, hv, _⟩ := h
  intro k hk
  exact (ho.lt k (hv.trans hk)).2
theorem Wtr.zero (hc : w.cell? p = some (.slice none 0 0)) (hf : w.frozen? p = false) : Wtr w p none [] :=
  ⟨_, hc, hf, World.ownsRow_nil _ _ _ _, rfl, by simp⟩
/-- Over a frame that wrote to neither the writer nor its block. -/
theorem Wtr.fr (h : Wtr w p row bs) (hf : Fr q w w') (hp : ¬ q p) (hq : ∀ a k, row = some k → q a → a.block ≠ k) : Wtr w' p row bs := by
  have hlt := h.at_
  have hrl := h.row_lt
  obtain ⟨v, hc, hz, ho, hv, hne⟩ := h
  refine ⟨v, (hf.cell p hlt hp).trans hc, (hf.frozen p hlt hp).trans hz, ⟨ho.1, ?_⟩, hv, hne⟩
  rcases ho.2 with hn | ⟨g, cap, cur, rfl, hb, hgg, rest⟩
  · exact .inl hn
  · refine .inr ⟨g, cap, cur, rfl, hb, ?_, rest⟩
    have hrow : row = some g := by rw [← hv]; rfl
    rw [hf.block g (hrl g hrow) (fun a ha => hq a g hrow ha)]
    exact hgg
theorem Wtr.below (h : Wtr w p row bs) (hb : Below w.heap.size w w') : Wtr w' p row bs := h.fr (q := fun _ => False) (Fr.of_below hb) id (fun _ _ _ h => h.elim)
theorem Wtr.rd (h : Wtr w p row bs) : ∃ v, w.cell? p = some v ∧ Rd w v bs := by
  obtain ⟨v, hc, _, ho, hv, _⟩ := h
  refine ⟨v, hc, ?_⟩
  rcases ho.2 with ⟨rfl, hn⟩ | ⟨g, cap, cur, rfl, hb, hgg, hnc, rest⟩
  · have : bs = [] := List.eq_nil_of_length_eq_zero hn
    subst this
    exact Rd.nil w
  · refine ⟨_, cap, rfl, hnc, fun _ => ⟨g, 0, rfl, fun i u hu => ?_⟩⟩
    have h1 := ho.cells (g := g) rfl i (B8 u) (by rw [List.getElem?_map, hu]; rfl)
    rw [Addr.add_lit] at h1
    exact h1
theorem Later.trans {w w' : World} (h : Later w row row') (k : Later w' row' row2) (hs : w.heap.size ≤ w'.heap.size) : Later w row row2 := by
  rcases k with rfl | ⟨j, rfl, hj⟩
  · exact h
  · exact .inr ⟨j, rfl, by omega⟩
theorem Fr.writer {a b c : World} (h : Fr (WtrAt p row) a b) (hl : Later a row row') (k : Fr (WtrAt p row') b c) : Fr (WtrAt p row) a c := by
  refine h.then k fun x hx hlt => ?_
  rcases hx with hx | hx
  · exact .inl hx
  · rcases hl with rfl | ⟨j, rfl, hj⟩
    · exact .inr hx
    · exact absurd (Option.some.inj hx) (by omega)
end

theorem ownsRow_far {w : World} {base : Nat} {e : TypeId} {size : Nat} {v : Value} {n : Nat} {xs : List Value} (h : w.ownsRow base e size v n xs) {p : Addr} (hp : v.ownBlock ≠ some p.block) (u : Value) : (w.setCell p u).ownsRow base e size v n xs := by
  refine ⟨h.1, ?_⟩
  rcases h.2 with hn | ⟨g, cap, cur, rfl, hb, hgg, rest⟩
  · exact .inl hn
  · exact .inr ⟨g, cap, cur, rfl, hb, by rw [Below.heap_setCell _ _ _ _ (fun e => hp (by rw [← e]; rfl))]; exact hgg, rest⟩

/-- An append of bytes to what a writer has written, and the store of it. -/
theorem append_any {w : World} {p : Addr} {row : Option Nat} {bs : List UInt8} (h : Wtr w p row bs) (xs : List UInt8) (A : Addr) (c : Nat) (hx : ∀ i u, xs[i]? = some u → w.cell? (A.add i) = some (B8 u)) (hL : bs.length + xs.length ≤ 1099511627776) :
    ∃ v v' w1, w.cell? p = some v ∧ (Builtin.append_ #[25, 25] 25 #[v, .slice (some A) xs.length c]).run Tryd.prog w = .ok v' w1 ∧ w1.cell? p = some v ∧ w1.frozen? p = false ∧ (∃ A' n' c', v' = .slice A' n' c') ∧
      Fr (WtrAt p row) w (w1.setCell p v') ∧ ∃ row', Wtr (w1.setCell p v') p row' (bs ++ xs) ∧ Later w row row' := by
  obtain ⟨i0, hi, hz0, hz1, hz2⟩ := info_parts u8info
  have hlt := h.at_
  have hrl := h.row_lt
  obtain ⟨v, hc, hz, ho, hv, hne⟩ := h
  obtain ⟨v', w1, hrun, ho1, hg, _, hat⟩ := run_append_own_at (P := Tryd.prog) w 0 25 25 5 i0 (.int .u8 0) 1 1 Tryd.underlying25 hi hz0 hz1 hz2 rfl (by omega) v bs.length (bs.map B8) ho A xs.length c (xs.map B8) (by simp)
    (fun j u hu => by obtain ⟨x, hx', rfl⟩ := getElem_B8 hu; exact hx j x hx') (oneCell_B8 xs) (by simp only [maxLen]; omega) (by omega) (by omega)
  have hpb : some p.block ≠ v.ownBlock := fun e => hne (by rw [← hv, ← e])
  have hcp : w1.cell? p = some v := hg.cell hc hpb
  have hfp : w1.frozen? p = false := (World.frozen?_of_block (hg.block p.block hlt hpb)).trans hz
  have hl : Later w row v'.ownBlock := by
    rcases hat with e | e
    · exact .inl (e.trans hv)
    · exact .inr ⟨_, e, Nat.le_refl _⟩
  have hne' : v'.ownBlock ≠ some p.block := by
    rcases hat with e | e
    · rw [e, hv]; exact hne
    · rw [e]; intro e'; have := Option.some.inj e'; omega
  have hform : ∃ A' n' c', v' = .slice A' n' c' := by
    rcases ho1.2 with ⟨e, _⟩ | ⟨g, cap, cur, e, _⟩
    · exact ⟨_, _, _, e⟩
    · exact ⟨_, _, _, e⟩
  refine ⟨v, v', w1, hc, hrun, hcp, hfp, hform, ?_, v'.ownBlock, ⟨v', World.cell?_setCell_same _ _ _ hcp, by rw [frozen_setCell]; exact hfp, ?_, rfl, hne'⟩, hl⟩
  · have hf1 : Fr (WtrAt p row) w w1 := ⟨hg.os, hg.tape, hg.output, hg.size,
      fun a ha hn => World.cell?_of_block (hg.block a.block ha (fun e => hn (.inr (by rw [e, hv])))),
      fun a ha hn => World.frozen?_of_block (hg.block a.block ha (fun e => hn (.inr (by rw [e, hv])))),
      fun k hk hn => hg.block k hk (fun e => hn ⟨k, 0, none⟩ (.inr (by rw [← hv, ← e])) rfl)⟩
    exact hf1.set p v' (.inl rfl)
  · have hlen : (bs ++ xs).length = bs.length + xs.length := List.length_append
    rw [hlen, List.map_append]
    exact ownsRow_far ho1 hne' _
end Go.Proofs.YtjnhfabgdegngaaDoor
