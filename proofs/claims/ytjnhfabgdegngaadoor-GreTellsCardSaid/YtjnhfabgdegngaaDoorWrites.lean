/-
  What is proved: the writer of octets (A2) by contract: U8, U16, U32, Bytes, Done.
  Conditions: the writer has written fewer than 2^40 bytes.
-/
import Derived.Test.YtjnhfabgdegngaaDoorPuts
namespace Go.Proofs.YtjnhfabgdegngaaDoor
open Go.RowKit

theorem WU16_any (p : Addr) (row : Option Nat) (bs : List UInt8) (n : Nat) (w : World) (hn : n < 65536) (h : Wtr w p row bs) (hL : bs.length + 2 ≤ 1099511627776) :
    Calls Tryd.prog 33 #[.pointer (some p), .int .u16 n] w fun e w' => e = .returned (.pointer (some p)) ∧ Wrote p row (bs ++ be2 n) w w' := by
  have HT := Lib.hid (put2_any p row bs n w hn h hL)
  clear h hL
  go_enter Tryd.func33, Tryd.ntmps33
  go_wp2_with fail
  refine HT.out.mono ?_
  rintro e w' ⟨rfl, hq⟩
  have HQ := Lib.hid hq
  clear hq
  go_wp2_with fail
  go_ret
  exact ⟨rfl, HQ.out⟩
theorem WU32_any (p : Addr) (row : Option Nat) (bs : List UInt8) (n : Nat) (w : World) (hn : n < 4294967296) (h : Wtr w p row bs) (hL : bs.length + 4 ≤ 1099511627776) :
    Calls Tryd.prog 35 #[.pointer (some p), .int .u32 n] w fun e w' => e = .returned (.pointer (some p)) ∧ Wrote p row (bs ++ be4 n) w w' := by
  have HT := Lib.hid (put4_any p row bs n w hn h hL)
  clear h hL
  go_enter Tryd.func35, Tryd.ntmps35
  go_wp2_with fail
  refine HT.out.mono ?_
  rintro e w' ⟨rfl, hq⟩
  have HQ := Lib.hid hq
  clear hq
  go_wp2_with fail
  go_ret
  exact ⟨rfl, HQ.out⟩

theorem append_rd {w : World} {p : Addr} {row : Option Nat} {bs : List UInt8} (h : Wtr w p row bs) (xs : List UInt8) (u : Value) (hx : Rd w u xs) (hL : bs.length + xs.length ≤ 1099511627776) :
    ∃ v v' w1, w.cell? p = some v ∧ (Builtin.append_ #[25, 25] 25 #[v, u]).run Tryd.prog w = .ok v' w1 ∧ w1.cell? p = some v ∧ w1.frozen? p = false ∧ (∃ A' n' c', v' = .slice A' n' c') ∧
      Wrote p row (bs ++ xs) w (w1.setCell p v') := by
  obtain ⟨A, c, rfl, hc, hcell⟩ := hx
  cases A with
  | none =>
    have hx0 : xs = [] := by
      rcases Nat.eq_zero_or_pos xs.length with h0 | h0
      · exact List.eq_nil_of_length_eq_zero h0
      · obtain ⟨g, o, e, _⟩ := hcell h0
        cases e
    subst hx0
    have h' := h
    obtain ⟨v, hcv, hz, ho, hv, hne⟩ := h
    obtain ⟨i0, hi, hz0, hz1, hz2⟩ := info_parts u8info
    have hrun : (Builtin.append_ #[25, 25] 25 #[v, .slice none 0 c]).run Tryd.prog w = .ok v w := by
      rcases ho.2 with ⟨rfl, hn⟩ | ⟨g, cap, cur, rfl, _, _, hnc, _⟩
      · simp [Builtin.append_, run_underlying Tryd.underlying25, sizeOf, typeInfo, hi, Builtin.lenOf, Builtin.firstCells]
      · simp [Builtin.append_, run_underlying Tryd.underlying25, sizeOf, typeInfo, hi, Builtin.lenOf, Builtin.firstCells, hnc, storeCells]
    have hform : ∃ A' n' c', v = .slice A' n' c' := by
      rcases ho.2 with ⟨e, _⟩ | ⟨g, cap, cur, e, _⟩
      · exact ⟨_, _, _, e⟩
      · exact ⟨_, _, _, e⟩
    refine ⟨v, v, w, hcv, hrun, hcv, hz, hform, row, ?_, .inl rfl, Fr.of_set _ _ _ (.inl rfl)⟩
    rw [List.append_nil]
    exact ⟨v, World.cell?_setCell_same _ _ _ hcv, by rw [frozen_setCell]; exact hz, ownsRow_far ho (by rw [hv]; exact hne) _, hv, hne⟩
  | some ad =>
    have hcl : ∀ i u, xs[i]? = some u → w.cell? (ad.add i) = some (B8 u) := by
      intro i u hu
      have h0 : 0 < xs.length := by
        have := (List.getElem?_eq_some_iff.1 hu).1
        omega
      obtain ⟨g, o, e, hi⟩ := hcell h0
      obtain rfl := Option.some.inj e
      rw [Addr.add_lit]
      exact hi i u hu
    obtain ⟨v, v', w1, a1, a2, a3, a4, a0, a5, row', a6, a7⟩ := append_any h xs ad c hcl hL
    exact ⟨v, v', w1, a1, a2, a3, a4, a0, row', a6, a7, a5⟩

theorem WBytes_any (p : Addr) (row : Option Nat) (bs xs : List UInt8) (u : Value) (w : World) (h : Wtr w p row bs) (hx : Rd w u xs) (hL : bs.length + xs.length ≤ 1099511627776) :
    Calls Tryd.prog 18 #[.pointer (some p), u] w fun e w' => e = .returned (.pointer (some p)) ∧ Wrote p row (bs ++ xs) w w' := by
  obtain ⟨v, v', w1, c1, e1, g1, f1, ⟨A1, n1, d1, rfl⟩, hw⟩ := append_rd h xs u hx hL
  have E1 := Lib.hid e1
  have HQ := Lib.hid hw
  clear e1 hw h hx hL
  go_enter Tryd.func18, Tryd.ntmps18
  go_wp2_with (at_builtin; refine wpList_append_eq rfl (.tmp 9) (.tmp 10) 25 rfl _ _ rfl rfl _ _ E1.out ?_)
  go_ret
  exact ⟨rfl, HQ.out⟩

theorem WDone_any (p : Addr) (row : Option Nat) (bs : List UInt8) (w : World) (h : Wtr w p row bs) (hL : bs.length ≤ 1099511627776) :
    Calls Tryd.prog 19 #[.pointer (some p)] w fun e w' => e = .returned (.slice (some ⟨w.heap.size, 0, none⟩) bs.length bs.length) ∧ w.alloc (bytesObj bs) = w' := by
  obtain ⟨v, hc, hr⟩ := h.rd
  have HO := Lib.hid (own_any v bs w hr hL)
  clear hr h hL
  go_enter Tryd.func19, Tryd.ntmps19
  go_wp2_with fail
  refine HO.out.mono ?_
  rintro e w' ⟨rfl, rfl⟩
  go_wp2_with fail
  go_ret
  exact ⟨rfl, rfl⟩
end Go.Proofs.YtjnhfabgdegngaaDoor
