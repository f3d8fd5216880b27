/-
  What is proved: the reader of octets (A1) by contract: U8, U16, U32, Bytes, Rest.
  Conditions: the reader holds fewer than 2^40 bytes.
-/
import Derived.Test.YtjnhfabgdegngaaDoorReader
import Derived.Laws.BitsAllLaws
namespace Go.Proofs.YtjnhfabgdegngaaDoor
open Go.RowKit

theorem or_shift (a b : Nat) (ha : a < 16777216) (hb : b < 256) : bits .or .u32 ((a * 256 : Nat) : Int) (b : Int) = ((a * 256 + b : Nat) : Int) := by
  rw [u32_or_nat _ _ (by omega) (by omega)]
  have h := Nat.two_pow_add_eq_or_of_lt (i := 8) (b := b) (by omega) a
  rw [show a * 256 = 2 ^ 8 * a by omega, h]

theorem or_shiftI (a b : Int) (h0 : 0 ≤ a) (ha : a < 16777216) (h1 : 0 ≤ b) (hb : b < 256) : bits .or .u32 (a * 256) b = a * 256 + b := by
  obtain ⟨m, rfl⟩ := Int.eq_ofNat_of_zero_le h0
  obtain ⟨n, rfl⟩ := Int.eq_ofNat_of_zero_le h1
  have h := or_shift m n (by omega) (by omega)
  simpa using h
theorem or_zero (b : Int) (h1 : 0 ≤ b) (hb : b < 256) : bits .or .u32 0 b = b := by
  have h := or_shiftI 0 b (by omega) (by omega) h1 hb
  simpa using h

set_option maxHeartbeats 1000000 in
theorem read32_ok (p : Addr) (b0 b1 b2 b3 : UInt8) (r : List UInt8) (w : World) (h : Rdr w p (b0 :: b1 :: b2 :: b3 :: r)) (hL : (b0 :: b1 :: b2 :: b3 :: r).length ≤ 1099511627776) :
    Calls Tryd.prog 46 #[.pointer (some p), .int .i64 4] w fun e w' => e = .returned (.tuple #[.int .u32 ((((b0.toNat : Int) * 256 + b1.toNat) * 256 + b2.toNat) * 256 + b3.toNat), .nilIface]) ∧ Rdr w' p r ∧ Fr (· = p) w w' ∧ w'.heap.size = w.heap.size := by
  obtain ⟨A, hc, hz, hr⟩ := h
  obtain ⟨g, o, rfl, hi⟩ := hr (by simp)
  have hcut := Rdr.cut 4 (by simp) hc hz (fun _ => ⟨g, o, rfl, hi⟩)
  have hc0 := hcut.2 _ _ (hi 0 b0 rfl)
  have hc1 := hcut.2 _ _ (hi 1 b1 rfl)
  have hc2 := hcut.2 _ _ (hi 2 b2 rfl)
  have hc3 := hcut.2 _ _ (hi 3 b3 rfl)
  have HT := Lib.hid (take_ok p (some ⟨g, o, none⟩) (b0 :: b1 :: b2 :: b3 :: r).length 4 w hc hz (by simp) hL)
  have HR := Lib.hid hcut.1
  have HF := Lib.hid (Fr.of_set (p := (· = p)) w p (.slice (cutA (some ⟨g, o, none⟩) (b0 :: b1 :: b2 :: b3 :: r).length 4) ((b0 :: b1 :: b2 :: b3 :: r).length - 4) ((b0 :: b1 :: b2 :: b3 :: r).length - 4)) rfl)
  clear hc hz hr hi hcut hL
  generalize hW : w.setCell p (.slice (cutA (some ⟨g, o, none⟩) (b0 :: b1 :: b2 :: b3 :: r).length 4) ((b0 :: b1 :: b2 :: b3 :: r).length - 4) ((b0 :: b1 :: b2 :: b3 :: r).length - 4)) = W at *
  have HS : Hid (W.heap.size = w.heap.size) := by show _ = _; rw [← hW]; simp
  clear hW
  simp only [Nat.add_zero, B8] at hc0
  simp only [B8] at hc1
  simp only [B8] at hc2
  simp only [B8] at hc3
  have hb0 := b0.toNat_lt
  have hb1 := b1.toNat_lt
  have hb2 := b2.toNat_lt
  have hb3 := b3.toNat_lt
  have o0 := or_zero b0.toNat (by omega) (by omega)
  have o1 := or_shiftI ((b0.toNat : Int)) b1.toNat (by omega) (by omega) (by omega) (by omega)
  have o2 := or_shiftI (((b0.toNat : Int) * 256 + b1.toNat)) b2.toNat (by omega) (by omega) (by omega) (by omega)
  have o3 := or_shiftI ((((b0.toNat : Int) * 256 + b1.toNat) * 256 + b2.toNat)) b3.toNat (by omega) (by omega) (by omega) (by omega)
  go_enter Tryd.func46, Tryd.ntmps46
  go_wp2_with fail
  refine HT.out.mono ?_
  rintro e w' ⟨rfl, rfl⟩
  go_wp2_with fail
  refine wp_loop_rounds 5 ?_
  rw [rounds_succ]
  go_wp2_with fail
  rw [rounds_succ]
  go_wp2_with fail
  rw [rounds_succ]
  go_wp2_with fail
  rw [rounds_succ]
  go_wp2_with fail
  rw [rounds_succ]
  go_wp2_with fail
  go_ret2
  exact ⟨rfl, HR.out, HF.out, HS.out⟩
theorem read32_short (p : Addr) (bs : List UInt8) (w : World) (h : Rdr w p bs) (hL : bs.length < 4) :
    Calls Tryd.prog 46 #[.pointer (some p), .int .i64 4] w fun e w' => e = .returned (.tuple #[.int .u32 0, .iface 74 (.pointer (some ⟨w.heap.size, 0, none⟩))]) ∧ w.alloc (wrongObj octetsWord 2) = w' := by
  obtain ⟨A, hc, hz, hr⟩ := h
  have HT := Lib.hid (take_short p A bs.length 4 w hc (by omega))
  clear hc hz hr
  go_enter Tryd.func46, Tryd.ntmps46
  go_wp2_with fail
  refine HT.out.mono ?_
  rintro e w' ⟨rfl, rfl⟩
  go_wp2_with fail
  go_ret2
  exact ⟨rfl, rfl⟩

theorem U32_ok (p : Addr) (b0 b1 b2 b3 : UInt8) (r : List UInt8) (w : World) (h : Rdr w p (b0 :: b1 :: b2 :: b3 :: r)) (hL : (b0 :: b1 :: b2 :: b3 :: r).length ≤ 1099511627776) :
    Calls Tryd.prog 41 #[.pointer (some p)] w fun e w' => e = .returned (.tuple #[.int .u32 ((((b0.toNat : Int) * 256 + b1.toNat) * 256 + b2.toNat) * 256 + b3.toNat), .nilIface]) ∧ Rdr w' p r ∧ Fr (· = p) w w' ∧ w'.heap.size = w.heap.size := by
  have HT := Lib.hid (read32_ok p b0 b1 b2 b3 r w h hL)
  clear h hL
  go_enter Tryd.func41, Tryd.ntmps41
  go_wp2_with fail
  refine HT.out.mono ?_
  rintro e w' ⟨rfl, hq⟩
  have HQ := Lib.hid hq
  clear hq
  go_wp2_with fail
  go_ret2
  exact ⟨rfl, HQ.out⟩
theorem U32_short (p : Addr) (bs : List UInt8) (w : World) (h : Rdr w p bs) (hL : bs.length < 4) :
    Calls Tryd.prog 41 #[.pointer (some p)] w fun e w' => e = .returned (.tuple #[.int .u32 0, .iface 74 (.pointer (some ⟨w.heap.size, 0, none⟩))]) ∧ w.alloc (wrongObj octetsWord 2) = w' := by
  have HT := Lib.hid (read32_short p bs w h hL)
  clear h hL
  go_enter Tryd.func41, Tryd.ntmps41
  go_wp2_with fail
  refine HT.out.mono ?_
  rintro e w' ⟨rfl, rfl⟩
  go_wp2_with fail
  go_ret2
  exact ⟨rfl, rfl⟩

end Go.Proofs.YtjnhfabgdegngaaDoor
