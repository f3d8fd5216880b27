/-
  What is proved: the writer of octets (A2) by contract: U8, U16, U32, Bytes, Done.
  Conditions: the writer has written fewer than 2^40 bytes.
-/
import Derived.Test.YtfaimdopaocpkaaDoorWriter
namespace Go.Proofs.YtfaimdopaocpkaaDoor
open Go.RowKit

/-- Behind a put: all that was written. -/
def Wrote (p : Addr) (row : Option Nat) (bs : List UInt8) (w w' : World) : Prop := ∃ row', Wtr w' p row' bs ∧ Later w row row' ∧ Fr (WtrAt p row) w w'
theorem Wrote.then {p : Addr} {row row1 : Option Nat} {bs : List UInt8} {w w1 w2 : World} (hl : Later w row row1) (hf : Fr (WtrAt p row) w w1) (h : Wrote p row1 bs w1 w2) : Wrote p row bs w w2 := by
  obtain ⟨row2, hw, hl2, hf2⟩ := h
  exact ⟨row2, hw, hl.trans hl2 hf.size, hf.writer hl hf2⟩

theorem put_step {w : World} {p : Addr} {row : Option Nat} {bs : List UInt8} (h : Wtr w p row bs) (x : UInt8) (y : Int) (hy : y = (x.toNat : Int)) (hL : bs.length + 1 ≤ 1099511627776) :
    ∃ v v' w1, w.cell? p = some v ∧ (Builtin.append_ #[25, 25] 25 #[v, .slice (some ⟨w.heap.size, 0, none⟩) 1 1]).run Tryd.prog (w.alloc (.cells #[.int .u8 y] 5)) = .ok v' w1 ∧ w1.cell? p = some v ∧ w1.frozen? p = false ∧ (∃ A' n' c', v' = .slice A' n' c') ∧
      Fr (WtrAt p row) w (w1.setCell p v') ∧ ∃ row', Wtr (w1.setCell p v') p row' (bs ++ [x]) ∧ Later w row row' := by
  subst hy
  have hb : Below w.heap.size w (w.alloc (bytesObj [x])) := (Below.refl _ _).alloc (Nat.le_refl _) _
  have h1 := h.below hb
  obtain ⟨v, v', w1, a1, a2, a3, a4, a0, a5, row', a6, a7⟩ := append_any h1 [x] ⟨w.heap.size, 0, none⟩ 1 (fun i u hu => by rw [Addr.add_lit, Nat.zero_add]; exact bytesCell (bytesObj_new w [x]) i u hu) (by simpa using hL)
  refine ⟨v, v', w1, (hb.cell h.at_).symm.trans a1, a2, a3, a4, a0, (Fr.of_below hb).trans a5, row', a6, ?_⟩
  rcases a7 with e | ⟨k, e, hk⟩
  · exact .inl e
  · exact .inr ⟨k, e, by have := hb.size; omega⟩

end Go.Proofs.YtfaimdopaocpkaaDoor
