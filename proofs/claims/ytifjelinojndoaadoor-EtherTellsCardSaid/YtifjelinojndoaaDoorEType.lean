/-
  What is proved: ether's readType and readFrame by contract.
  Conditions: the reader holds fewer than 2^40 bytes.
-/
import Derived.Test.YtifjelinojndoaaDoorEAddr
namespace Go.Proofs.YtifjelinojndoaaDoor
open Go.RowKit

/-- A frame: its parts. -/
structure Frm where
  dst : M6
  src : M6
  vlan : Int
  ty : Nat
  b : List UInt8
/-- A tag's bytes: none without a tag. -/
def tagBs (vlan : Int) : List UInt8 := if vlan = -1 then [] else [0x81, 0] ++ be2 vlan.toNat
/-- A frame's bytes behind its addresses. -/
def Frm.tail (f : Frm) : List UInt8 := tagBs f.vlan ++ be2 f.ty ++ f.b
def Frm.bs (f : Frm) : List UInt8 := f.dst.bs ++ (f.src.bs ++ f.tail)
/-- A frame that has bytes, but for its size. -/
structure Frm.Ok (f : Frm) : Prop where
  ty : f.ty < 65536
  tag : (f.vlan = -1 ∧ f.ty ≠ 33024) ∨ (0 ≤ f.vlan ∧ f.vlan ≤ 65535)
/-- Bytes that end too early behind the addresses. -/
def TShort (bs : List UInt8) : Prop := bs.length < 2 ∨ (∃ r, bs = 0x81 :: 0 :: r ∧ r.length < 4)

theorem be2_val (n : Nat) (h : n < 65536) : ((UInt8.ofNat (n / 256)).toNat : Int) * 256 + (UInt8.ofNat n).toNat = n := by
  rw [ofNat_lt, ofNat_lt]
  omega

theorem Fr.of_setEx {w w' : World} {p : Addr} (h : ∃ v, w.setCell p v = w') : Fr (· = p) w w' := by
  obtain ⟨v, rfl⟩ := h
  exact Fr.of_set w p v rfl

set_option maxHeartbeats 1000000 in
theorem readType_plain (p : Addr) (g : Nat) (hpg : p.block ≠ g) (n : Nat) (r : List UInt8) (w : World) (hn : n < 65536) (h8 : n ≠ 33024) (h : RdrG w p g (be2 n ++ r)) (hL : (be2 n ++ r).length ≤ 1099511627776) :
    Calls Tryd.prog 25 #[.pointer (some p)] w fun e w' => e = .returned (.tuple #[.int .i64 (-1), .int .u16 n, .nilIface]) ∧ RdrG w' p g r ∧ Fr (· = p) w w' := by
  have hu := U16_at p g hpg (UInt8.ofNat (n / 256)) (UInt8.ofNat n) r w h hL
  rw [be2_val n hn] at hu
  have HT := Lib.hid hu
  have ht : ((n : Int) != 33024) = true := by simp; omega
  clear hu h hL hn h8
  go_enter Tryd.func25, Tryd.ntmps25
  go_wp2_with fail
  refine HT.out.mono ?_
  rintro e w' ⟨rfl, hq⟩
  have HQ := Lib.hid hq
  clear hq
  go_wp2_with fail
  go_ret3
  exact ⟨rfl, HQ.out.1, Fr.of_setEx HQ.out.2⟩

set_option maxHeartbeats 1000000 in
theorem readType_tag (p : Addr) (g : Nat) (hpg : p.block ≠ g) (t n : Nat) (r : List UInt8) (w : World) (ht : t < 65536) (hn : n < 65536) (h : RdrG w p g (0x81 :: 0 :: (be2 t ++ (be2 n ++ r)))) (hL : (0x81 :: 0 :: (be2 t ++ (be2 n ++ r))).length ≤ 1099511627776) :
    Calls Tryd.prog 25 #[.pointer (some p)] w fun e w' => e = .returned (.tuple #[.int .i64 t, .int .u16 n, .nilIface]) ∧ RdrG w' p g r ∧ Fr (· = p) w w' := by
  have HT := Lib.hid (U16_at p g hpg 0x81 0 _ w h hL)
  have HL := Lib.hid hL
  clear h hL
  go_enter Tryd.func25, Tryd.ntmps25
  go_wp2_with fail
  refine HT.out.mono ?_
  rintro e w1 ⟨he, hq⟩
  have he' : e = .returned (.tuple #[.int .u16 33024, .nilIface]) := he
  subst he'
  have HQ := Lib.hid hq
  clear hq he
  go_wp2_with fail
  have h1 := U16_at p g hpg (UInt8.ofNat (t / 256)) (UInt8.ofNat t) (be2 n ++ r) w1 HQ.out.1 (by have := HL.out; simp [be2] at this ⊢; omega)
  rw [be2_val t ht] at h1
  refine h1.mono ?_
  clear h1
  rintro e w2 ⟨rfl, hq⟩
  have HQ2 := Lib.hid hq
  clear hq
  go_wp2_with fail
  have h1 := U16_at p g hpg (UInt8.ofNat (n / 256)) (UInt8.ofNat n) r w2 HQ2.out.1 (by have := HL.out; simp [be2] at this ⊢; omega)
  rw [be2_val n hn] at h1
  refine h1.mono ?_
  clear h1
  rintro e w3 ⟨rfl, hq⟩
  have HQ3 := Lib.hid hq
  clear hq
  go_wp2_with fail
  go_ret3
  exact ⟨rfl, HQ3.out.1, ((Fr.of_setEx HQ.out.2).trans (Fr.of_setEx HQ2.out.2)).trans (Fr.of_setEx HQ3.out.2)⟩

theorem readType_ok (p : Addr) (g : Nat) (hpg : p.block ≠ g) (f : Frm) (hf : f.Ok) (w : World) (h : RdrG w p g f.tail) (hL : f.tail.length ≤ 1099511627776) :
    Calls Tryd.prog 25 #[.pointer (some p)] w fun e w' => e = .returned (.tuple #[.int .i64 f.vlan, .int .u16 f.ty, .nilIface]) ∧ RdrG w' p g f.b ∧ Fr (· = p) w w' := by
  rcases hf.tag with ⟨h1, h2⟩ | ⟨h1, h2⟩
  · have et : f.tail = be2 f.ty ++ f.b := by simp [Frm.tail, tagBs, h1]
    rw [et] at h hL
    rw [h1]
    exact readType_plain p g hpg f.ty f.b w hf.ty h2 h hL
  · have et : f.tail = 0x81 :: 0 :: (be2 f.vlan.toNat ++ (be2 f.ty ++ f.b)) := by
      have : ¬ f.vlan = -1 := by omega
      simp [Frm.tail, tagBs, this]
    rw [et] at h hL
    have hv : f.vlan = (f.vlan.toNat : Int) := by omega
    rw [hv]
    exact readType_tag p g hpg f.vlan.toNat f.ty f.b w (by omega) hf.ty h hL

/-- An error of octets, told as 'ErrShort'. -/
def ErrAt (w : World) (b : Nat) : Prop := Chain w 2 [octetsWord] (.iface 64 (.pointer (some ⟨b, 0, none⟩)))

set_option maxHeartbeats 1000000 in
theorem readType_short (p : Addr) (g : Nat) (hpg : p.block ≠ g) (bs : List UInt8) (hs : TShort bs) (w : World) (h : RdrG w p g bs) (hL : bs.length ≤ 1099511627776) :
    Calls Tryd.prog 25 #[.pointer (some p)] w fun e w' => ∃ (x y : Int) (b : Nat), e = .returned (.tuple #[.int .i64 x, .int .u16 y, .iface 64 (.pointer (some ⟨b, 0, none⟩))]) ∧ ErrAt w' b ∧ Fr (· = p) w w' := by
  rcases hs with hs | ⟨r, rfl, hs⟩
  · have HT := Lib.hid (U16_short p bs w h.rdr hs)
    clear h hL
    go_enter Tryd.func25, Tryd.ntmps25
    go_wp2_with fail
    refine HT.out.mono ?_
    rintro e w' ⟨rfl, hw⟩
    obtain ⟨hc, hb⟩ := wrong_facts 2 octetsWord hw
    have HC := Lib.hid hc
    have HB := Lib.hid hb
    clear hc hb hw
    go_wp2_with fail
    go_ret3
    exact ⟨_, _, _, rfl, HC.out, Fr.of_below HB.out⟩
  · have HT := Lib.hid (U16_at p g hpg 0x81 0 _ w h hL)
    have HL := Lib.hid hL
    clear h hL
    go_enter Tryd.func25, Tryd.ntmps25
    go_wp2_with fail
    refine HT.out.mono ?_
    rintro e w1 ⟨he, hq⟩
    have he' : e = .returned (.tuple #[.int .u16 33024, .nilIface]) := he
    subst he'
    have HQ := Lib.hid hq
    clear hq he
    go_wp2_with fail
    by_cases h2 : r.length < 2
    · refine (U16_short p r w1 HQ.out.1.rdr h2).mono ?_
      rintro e w' ⟨rfl, hw⟩
      obtain ⟨hc, hb⟩ := wrong_facts 2 octetsWord hw
      have HC := Lib.hid hc
      have HB := Lib.hid hb
      clear hc hb hw
      go_wp2_with fail
      go_ret3
      exact ⟨_, _, _, rfl, HC.out, (Fr.of_setEx HQ.out.2).trans (Fr.of_below HB.out)⟩
    · obtain ⟨t0, t1, r, rfl⟩ : ∃ t0 t1 r', r = t0 :: t1 :: r' := by
        match r, h2 with
        | [], h => simp at h
        | [_], h => simp at h
        | t0 :: t1 :: r', _ => exact ⟨t0, t1, r', rfl⟩
      refine (U16_at p g hpg t0 t1 r w1 HQ.out.1 (by have := HL.out; simp at this ⊢; omega)).mono ?_
      rintro e w2 ⟨rfl, hq⟩
      have HQ2 := Lib.hid hq
      clear hq h2
      generalize (t0.toNat : Int) * 256 + t1.toNat = tv
      go_wp2_with fail
      refine (U16_short p r w2 HQ2.out.1.rdr (by simp at hs; omega)).mono ?_
      rintro e w' ⟨rfl, hw⟩
      obtain ⟨hc, hb⟩ := wrong_facts 2 octetsWord hw
      have HC := Lib.hid hc
      have HB := Lib.hid hb
      clear hc hb hw
      go_wp2_with fail
      go_ret3
      exact ⟨_, _, _, rfl, HC.out, ((Fr.of_setEx HQ.out.2).trans (Fr.of_setEx HQ2.out.2)).trans (Fr.of_below HB.out)⟩
end Go.Proofs.YtifjelinojndoaaDoor
