/-
  What is proved: the writer of octets (A2) by contract: U8, U16, U32, Bytes, Done.
  Conditions: the writer has written fewer than 2^40 bytes.
-/
import Derived.Test.YtjnhfabgdegngaaDoorWriter
namespace Go.Proofs.YtjnhfabgdegngaaDoor
open Go.RowKit

/-- Behind a put: all that was written. -/
def Wrote (p : Addr) (row : Option Nat) (bs : List UInt8) (w w' : World) : Prop := ∃ row', Wtr w' p row' bs ∧ Later w row row' ∧ Fr (WtrAt p row) w w'
theorem Wrote.then {p : Addr} {row row1 : Option Nat} {bs : List UInt8} {w w1 w2 : World} (hl : Later w row row1) (hf : Fr (WtrAt p row) w w1) (h : Wrote p row1 bs w1 w2) : Wrote p row bs w w2 := by
  obtain ⟨row2, hw, hl2, hf2⟩ := h
  exact ⟨row2, hw, hl.trans hl2 hf.size, hf.writer hl hf2⟩

theorem put_step {w : World} {p : Addr} {row : Option Nat} {bs : List UInt8} (h : Wtr w p row bs) (x : UInt8) (y : Int) (hy : y = (x.toNat : Int)) (hL : bs.length + 1 ≤ 1099511627776) :
    ∃ v v' w1, w.cell? p = some v ∧ (Builtin.append_ #[25, 25] 25 #[v, .slice (some ⟨w.heap.size, 0, none⟩) 1 1]).run Tryd.prog (w.alloc (.cells #[.int .u8 y] 5)) = .ok v' w1 ∧ w1.cell? p = some v ∧ w1.frozen? p = false ∧ (∃ A' n' c', v' = .slice A' n' c') ∧
      Fr (WtrAt p row) w (w1.setCell p v') ∧ ∃ row', Wtr (w1.setCell p v') p row' (bs ++ [x]) ∧ Later w row row' := by
  subst hy
  have hb : Below w.heap.size w (w.alloc (bytesObj [x])) := (Below.refl _ _).alloc (Nat.le_refl _) _
  have h1 := h.below hb
  obtain ⟨v, v', w1, a1, a2, a3, a4, a0, a5, row', a6, a7⟩ := append_any h1 [x] ⟨w.heap.size, 0, none⟩ 1 (fun i u hu => by rw [Addr.add_lit, Nat.zero_add]; exact bytesCell (bytesObj_new w [x]) i u hu) (by simpa using hL)
  refine ⟨v, v', w1, (hb.cell h.at_).symm.trans a1, a2, a3, a4, a0, (Fr.of_below hb).trans a5, row', a6, ?_⟩
  rcases a7 with e | ⟨k, e, hk⟩
  · exact .inl e
  · exact .inr ⟨k, e, by have := hb.size; omega⟩

set_option maxRecDepth 100000 in
set_option maxHeartbeats 2000000 in
theorem put1_any (p : Addr) (row : Option Nat) (bs : List UInt8) (n : Nat) (w : World) (hn : n < 256) (h : Wtr w p row bs) (hL : bs.length + 1 ≤ 1099511627776) :
    Calls Tryd.prog 45 #[.pointer (some p), .int .u32 n, .int .i64 1] w fun e w' => e = .returned (.pointer (some p)) ∧ Wrote p row (bs ++ [UInt8.ofNat n]) w w' := by
  obtain ⟨v0, u1, w1, c1, e1, g1, f1, ⟨A1, n1, d1, rfl⟩, r1, row1, hw1, hl1⟩ := put_step h (UInt8.ofNat n) (n : Int) (by rw [ofNat_lt]; omega) (by simp; omega)
  have HE : Hid (Wrote p row (bs ++ [UInt8.ofNat n]) w (w1.setCell p (.slice A1 n1 d1))) := by
    refine (Wrote.then hl1 r1 (show Wrote p row1 (bs ++ [UInt8.ofNat n]) _ _ from ⟨row1, by simpa [be2, be4] using hw1, Or.inl rfl, Fr.refl _ _⟩))
  clear r1 hw1 hl1
  clear h hL
  have E1 := Lib.hid e1
  clear e1
  go_enter Tryd.func45, Tryd.ntmps45
  go_wp2_with (first | (at_builtin; refine wpList_append_eq rfl (.tmp 56) (.tmp 59) 25 rfl _ _ rfl rfl _ _ E1.out ?_))
  go_ret
  exact ⟨rfl, HE.out⟩

set_option maxRecDepth 100000 in
set_option maxHeartbeats 2000000 in
theorem put2_any (p : Addr) (row : Option Nat) (bs : List UInt8) (n : Nat) (w : World) (hn : n < 65536) (h : Wtr w p row bs) (hL : bs.length + 2 ≤ 1099511627776) :
    Calls Tryd.prog 45 #[.pointer (some p), .int .u32 n, .int .i64 2] w fun e w' => e = .returned (.pointer (some p)) ∧ Wrote p row (bs ++ be2 n) w w' := by
  obtain ⟨v0, u1, w1, c1, e1, g1, f1, ⟨A1, n1, d1, rfl⟩, r1, row1, hw1, hl1⟩ := put_step h (UInt8.ofNat (n / 256)) ((n : Int) / 256) (by rw [ofNat_lt]; omega) (by simp; omega)
  obtain ⟨v1, u2, w2, c2, e2, g2, f2, ⟨A2, n2, d2, rfl⟩, r2, row2, hw2, hl2⟩ := put_step hw1 (UInt8.ofNat n) ((n : Int) % 256) (by rw [ofNat_lt]; omega) (by simp; omega)
  obtain rfl : v1 = .slice A1 n1 d1 := Option.some.inj (c2.symm.trans (World.cell?_setCell_same _ _ _ g1))
  rw [World.size_setCell] at e2
  have HE : Hid (Wrote p row (bs ++ be2 n) w (w2.setCell p (.slice A2 n2 d2))) := by
    refine (Wrote.then hl1 r1 (Wrote.then hl2 r2 (show Wrote p row2 (bs ++ be2 n) _ _ from ⟨row2, by simpa [be2, be4] using hw2, Or.inl rfl, Fr.refl _ _⟩)))
  clear r1 hw1 hl1 r2 hw2 hl2 c2
  clear h hL
  have E1 := Lib.hid e1
  clear e1
  have E2 := Lib.hid e2
  clear e2
  go_enter Tryd.func45, Tryd.ntmps45
  go_wp2_with (first | (at_builtin; refine wpList_append_eq rfl (.tmp 44) (.tmp 48) 25 rfl _ _ rfl rfl _ _ E1.out ?_) | (at_builtin; refine wpList_append_eq rfl (.tmp 56) (.tmp 59) 25 rfl _ _ rfl rfl _ _ E2.out ?_))
  go_ret
  exact ⟨rfl, HE.out⟩

set_option maxRecDepth 100000 in
set_option maxHeartbeats 2000000 in
theorem put4_any (p : Addr) (row : Option Nat) (bs : List UInt8) (n : Nat) (w : World) (hn : n < 4294967296) (h : Wtr w p row bs) (hL : bs.length + 4 ≤ 1099511627776) :
    Calls Tryd.prog 45 #[.pointer (some p), .int .u32 n, .int .i64 4] w fun e w' => e = .returned (.pointer (some p)) ∧ Wrote p row (bs ++ be4 n) w w' := by
  obtain ⟨v0, u1, w1, c1, e1, g1, f1, ⟨A1, n1, d1, rfl⟩, r1, row1, hw1, hl1⟩ := put_step h (UInt8.ofNat (n / 16777216)) ((n : Int) / 16777216) (by rw [ofNat_lt]; omega) (by simp; omega)
  obtain ⟨v1, u2, w2, c2, e2, g2, f2, ⟨A2, n2, d2, rfl⟩, r2, row2, hw2, hl2⟩ := put_step hw1 (UInt8.ofNat (n / 65536)) (((n : Int) / 65536) % 256) (by rw [ofNat_lt]; omega) (by simp; omega)
  obtain ⟨v2, u3, w3, c3, e3, g3, f3, ⟨A3, n3, d3, rfl⟩, r3, row3, hw3, hl3⟩ := put_step hw2 (UInt8.ofNat (n / 256)) (((n : Int) / 256) % 256) (by rw [ofNat_lt]; omega) (by simp; omega)
  obtain ⟨v3, u4, w4, c4, e4, g4, f4, ⟨A4, n4, d4, rfl⟩, r4, row4, hw4, hl4⟩ := put_step hw3 (UInt8.ofNat n) ((n : Int) % 256) (by rw [ofNat_lt]; omega) (by simp; omega)
  obtain rfl : v1 = .slice A1 n1 d1 := Option.some.inj (c2.symm.trans (World.cell?_setCell_same _ _ _ g1))
  rw [World.size_setCell] at e2
  obtain rfl : v2 = .slice A2 n2 d2 := Option.some.inj (c3.symm.trans (World.cell?_setCell_same _ _ _ g2))
  rw [World.size_setCell] at e3
  obtain rfl : v3 = .slice A3 n3 d3 := Option.some.inj (c4.symm.trans (World.cell?_setCell_same _ _ _ g3))
  rw [World.size_setCell] at e4
  have HE : Hid (Wrote p row (bs ++ be4 n) w (w4.setCell p (.slice A4 n4 d4))) := by
    refine (Wrote.then hl1 r1 (Wrote.then hl2 r2 (Wrote.then hl3 r3 (Wrote.then hl4 r4 (show Wrote p row4 (bs ++ be4 n) _ _ from ⟨row4, by simpa [be2, be4] using hw4, Or.inl rfl, Fr.refl _ _⟩)))))
  clear r1 hw1 hl1 r2 hw2 hl2 r3 hw3 hl3 r4 hw4 hl4 c2 c3 c4
  clear h hL
  have E1 := Lib.hid e1
  clear e1
  have E2 := Lib.hid e2
  clear e2
  have E3 := Lib.hid e3
  clear e3
  have E4 := Lib.hid e4
  clear e4
  go_enter Tryd.func45, Tryd.ntmps45
  go_wp2_with (first | (at_builtin; refine wpList_append_eq rfl (.tmp 20) (.tmp 24) 25 rfl _ _ rfl rfl _ _ E1.out ?_) | (at_builtin; refine wpList_append_eq rfl (.tmp 32) (.tmp 36) 25 rfl _ _ rfl rfl _ _ E2.out ?_) | (at_builtin; refine wpList_append_eq rfl (.tmp 44) (.tmp 48) 25 rfl _ _ rfl rfl _ _ E3.out ?_) | (at_builtin; refine wpList_append_eq rfl (.tmp 56) (.tmp 59) 25 rfl _ _ rfl rfl _ _ E4.out ?_))
  go_ret
  exact ⟨rfl, HE.out⟩

end Go.Proofs.YtjnhfabgdegngaaDoor
