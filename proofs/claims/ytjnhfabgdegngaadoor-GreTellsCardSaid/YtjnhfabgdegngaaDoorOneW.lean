/-
  What is proved: a writer and what it has written, all older memory as it was; its calls by contract.
  Conditions: what is written is fewer than 2^40 bytes.
-/
import Derived.Test.YtjnhfabgdegngaaDoorBlk
namespace Go.Proofs.YtjnhfabgdegngaaDoor
open Go.RowKit

/-- The writer, and what it has written; its row is none of the older blocks. -/
structure One (w : World) (q : Nat) (bs : List UInt8) (row : Option Nat) (wr : World) : Prop where
  a : Wtr wr ⟨q, 0, none⟩ row bs
  lo : ∀ k, row = some k → w.heap.size ≤ k
  old : Below w.heap.size w wr
  q : w.heap.size ≤ q
theorem One.below {w : World} {q : Nat} {bs : List UInt8} {row : Option Nat} {a b : World} (h : One w q bs row a) (hb : Below a.heap.size a b) : One w q bs row b :=
  ⟨h.a.below hb, h.lo, below_to h.old hb h.old.size, h.q⟩
theorem One.put {w : World} {q : Nat} {bs cs : List UInt8} {row : Option Nat} {a b : World} (h : One w q bs row a) (hw : Wrote ⟨q, 0, none⟩ row cs a b) : ∃ row', One w q cs row' b ∧ Later a row row' := by
  obtain ⟨row', k1, k2, k3⟩ := hw
  refine ⟨row', ⟨k1, fun k e => ?_, ?_, h.q⟩, k2⟩
  · rcases k2 with e2 | ⟨j, e2, hj⟩
    · exact h.lo k (by rw [← e2]; exact e)
    · rw [e2] at e; injection e with e; have := h.old.size; omega
  · exact below_to h.old (k3.below (B := w.heap.size) h.old.size (fun x hx => by
      rcases hx with hx | hx
      · subst hx; exact h.q
      · exact h.lo x.block hx.symm)) (Nat.le_refl _)
/-- Another row is written over. -/
theorem One.over {w : World} {q g : Nat} {bs : List UInt8} {row : Option Nat} {a b : World} (h : One w q bs row a) (hf : Fr (fun x => x.block = g) a b) (hq : q ≠ g) (hr : row ≠ some g) (hg : w.heap.size ≤ g) : One w q bs row b :=
  ⟨h.a.fr hf (fun e => hq e) (fun x k hk e he => by have e1 : x.block = g := e; exact hr (by rw [hk, ← he, e1])), h.lo, below_to h.old (hf.below (B := w.heap.size) h.old.size (fun x hx => by have e1 : x.block = g := hx; omega)) (Nat.le_refl _), h.q⟩

/-- The writer at 'q' has written 'bs' since 'w'; all that was there at 'w' is as it was. -/
def Wrt (w : World) (q : Nat) (bs : List UInt8) (W : World) : Prop := ∃ row, One w q bs row W
section
variable {w W W' : World} {q : Nat} {bs : List UInt8}
theorem Wrt.new (w : World) : Wrt w w.heap.size [] (w.alloc (.cells #[.slice none 0 0] 56)) :=
  ⟨none, Wtr.zero (by simp) (by simp), fun k h => (by cases h), (Below.refl _ _).alloc (Nat.le_refl _) _, Nat.le_refl _⟩
theorem Wrt.below (h : Wrt w q bs W) (hb : Below W.heap.size W W') : Wrt w q bs W' := by
  obtain ⟨row, h⟩ := h
  exact ⟨row, h.below hb⟩
theorem below_drew (w : World) : Below w.heap.size w w.drew := ⟨rfl, rfl, rfl, Nat.le_refl _, fun _ _ => rfl⟩
theorem Wrt.drew (h : Wrt w q bs W) : Wrt w q bs W.drew := h.below (below_drew W)
theorem Wrt.old (h : Wrt w q bs W) : Below w.heap.size w W := by
  obtain ⟨row, h⟩ := h
  exact h.old
theorem Wrt.block (h : Wrt w q bs W) {G : Nat} {o : Obj} (hg : w.heap[G]? = some o) : W.heap[G]? = some o :=
  (h.old.block G (Array.getElem?_eq_some_iff.1 hg).1).trans hg
theorem Wrt.bytes (h : Wrt w q bs W) (xs : List UInt8) (u : Value) (hx : Rd W u xs) (hL : bs.length + xs.length ≤ 1099511627776) :
    Calls Tryd.prog 18 #[.pointer (some ⟨q, 0, none⟩), u] W fun e w' => e = .returned (.pointer (some ⟨q, 0, none⟩)) ∧ Wrt w q (bs ++ xs) w' := by
  obtain ⟨row, h⟩ := h
  refine (WBytes_any _ row bs xs u W h.a hx hL).mono ?_
  rintro e w' ⟨rfl, hw⟩
  obtain ⟨row', h', _⟩ := h.put hw
  exact ⟨rfl, row', h'⟩
theorem Wrt.u16 (h : Wrt w q bs W) (n : Nat) (hn : n < 65536) (hL : bs.length + 2 ≤ 1099511627776) :
    Calls Tryd.prog 33 #[.pointer (some ⟨q, 0, none⟩), .int .u16 n] W fun e w' => e = .returned (.pointer (some ⟨q, 0, none⟩)) ∧ Wrt w q (bs ++ be2 n) w' := by
  obtain ⟨row, h⟩ := h
  refine (WU16_any _ row bs n W hn h.a hL).mono ?_
  rintro e w' ⟨rfl, hw⟩
  obtain ⟨row', h', _⟩ := h.put hw
  exact ⟨rfl, row', h'⟩
theorem Wrt.u16i (h : Wrt w q bs W) (n : Nat) (z : Int) (hz : z = (n : Int)) (hn : n < 65536) (hL : bs.length + 2 ≤ 1099511627776) :
    Calls Tryd.prog 33 #[.pointer (some ⟨q, 0, none⟩), .int .u16 z] W fun e w' => e = .returned (.pointer (some ⟨q, 0, none⟩)) ∧ Wrt w q (bs ++ be2 n) w' := hz ▸ h.u16 n hn hL
theorem Wrt.done (h : Wrt w q bs W) (hL : bs.length ≤ 1099511627776) :
    Calls Tryd.prog 19 #[.pointer (some ⟨q, 0, none⟩)] W fun e w' => e = .returned (.slice (some ⟨W.heap.size, 0, none⟩) bs.length bs.length) ∧ W.alloc (bytesObj bs) = w' := by
  obtain ⟨row, h⟩ := h
  exact WDone_any _ row bs W h.a hL
/-- What Done tells is a new block. -/
theorem Wrt.finish (h : Wrt w q bs W) (hL : bs.length ≤ 1099511627776) :
    Calls Tryd.prog 19 #[.pointer (some ⟨q, 0, none⟩)] W fun e w' => ∃ b, e = .returned (.slice (some ⟨b, 0, none⟩) bs.length bs.length) ∧ w.heap.size ≤ b ∧ w'.heap[b]? = some (bytesObj bs) ∧ Below w.heap.size w w' :=
  (h.done hL).mono (by
    rintro e w' ⟨rfl, rfl⟩
    exact ⟨_, rfl, h.old.size, heap_alloc_new W _, h.old.alloc h.old.size _⟩)
theorem Wrt.u32 (h : Wrt w q bs W) (n : Nat) (hn : n < 4294967296) (hL : bs.length + 4 ≤ 1099511627776) :
    Calls Tryd.prog 35 #[.pointer (some ⟨q, 0, none⟩), .int .u32 n] W fun e w' => e = .returned (.pointer (some ⟨q, 0, none⟩)) ∧ Wrt w q (bs ++ be4 n) w' := by
  obtain ⟨row, h⟩ := h
  refine (WU32_any _ row bs n W hn h.a hL).mono ?_
  rintro e w' ⟨rfl, hw⟩
  obtain ⟨row', h', _⟩ := h.put hw
  exact ⟨rfl, row', h'⟩
end
end Go.Proofs.YtjnhfabgdegngaaDoor
