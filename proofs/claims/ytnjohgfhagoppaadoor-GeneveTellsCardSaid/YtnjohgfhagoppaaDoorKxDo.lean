/-
  What is proved: vxlan's readHead, Encap and Decap by contract.
  Conditions: the bytes are fewer than 2^40.
-/
import Derived.Test.YtnjohgfhagoppaaDoorInR
import Derived.Test.YtnjohgfhagoppaaDoorOneW
namespace Go.Proofs.YtnjohgfhagoppaaDoor
open Go.RowKit

def vxWord : ByteArray := ⟨#[118, 120, 108, 97, 110]⟩
/-- The header's first bit that means something. -/
def xBit (bs : List UInt8) : Bool := (bs.getD 0 0).toNat / 8 % 2 == 1
/-- The id that a header tells. -/
def xId (bs : List UInt8) : Nat := ((bs.getD 4 0).toNat * 256 + (bs.getD 5 0).toNat) * 256 + (bs.getD 6 0).toNat
theorem xand_pow (n k : Nat) : n &&& 2 ^ k = if n / 2 ^ k % 2 = 1 then 2 ^ k else 0 := by
  apply Nat.eq_of_testBit_eq
  intro i
  rw [Nat.testBit_and, Nat.testBit_two_pow]
  by_cases hi : k = i
  · subst hi
    rw [decide_eq_true rfl, Bool.and_true, Nat.testBit_eq_decide_div_mod_eq]
    split
    · rename_i h; rw [decide_eq_true h, Nat.testBit_two_pow_self]
    · rename_i h; rw [decide_eq_false h, Nat.zero_testBit]
  · rw [decide_eq_false hi, Bool.and_false]
    split
    · rw [Nat.testBit_two_pow, decide_eq_false hi]
    · rw [Nat.zero_testBit]
theorem xand (x : Int) (n : Nat) (hx : x = (n : Int)) (hn : n < 4294967296) : bits .and .u32 x 134217728 = if n / 134217728 % 2 = 1 then 134217728 else 0 := by
  subst hx
  have h := u32_and_nat n 134217728 hn (by omega)
  have h2 := xand_pow n 27
  rw [show (134217728 : Int) = ((134217728 : Nat) : Int) from rfl, h, show (134217728 : Nat) = 2 ^ 27 by decide, h2]
  split <;> rfl

/-- Where no header is: the number, and all but the reader is as it was. -/
def XNo (n : Int) (l : List ByteArray) (p : Addr) (w : World) (e : Ending) (w' : World) : Prop :=
  ∃ T u, e = .returned (.tuple #[.int .u32 0, .iface T u]) ∧ Chain w' n l (.iface T u) ∧ Fr (· = p) w w'
theorem xhead_short0 (p : Addr) (bs : List UInt8) (w : World) (h : Rdr w p bs) (hL : bs.length < 4) :
    Calls Tryd.prog 36 #[.pointer (some p)] w (XNo 2 [octetsWord] p w) := by
  have HT := Lib.hid (U32_short p bs w h hL)
  clear h
  unfold XNo
  go_enter Tryd.func36, Tryd.ntmps36
  go_wp2_with fail
  refine HT.out.mono ?_
  rintro e w' ⟨rfl, hw⟩
  obtain ⟨hc, hb⟩ := wrong_facts 2 octetsWord hw
  have HC := Lib.hid hc
  have HB := Lib.hid hb
  clear hw hc hb
  go_wp2_with fail
  go_ret2
  exact ⟨_, _, rfl, HC.out, Fr.of_below HB.out⟩
theorem xhead_short4 (p : Addr) (b0 b1 b2 b3 : UInt8) (bs : List UInt8) (w : World) (h : Rdr w p (b0 :: b1 :: b2 :: b3 :: bs)) (hL : bs.length < 4) :
    Calls Tryd.prog 36 #[.pointer (some p)] w (XNo 2 [octetsWord] p w) := by
  have HT := Lib.hid (U32_ok p b0 b1 b2 b3 bs w h (by simp; omega))
  have HL := Lib.hid hL
  clear h hL
  unfold XNo
  go_enter Tryd.func36, Tryd.ntmps36
  go_wp2_with fail
  refine HT.out.mono ?_
  rintro e w1 ⟨rfl, hr, hf, hz⟩
  have H1 := Lib.hid (And.intro hr hf)
  clear hr hf hz
  go_wp2_with fail
  refine (U32_short p bs w1 H1.out.1 HL.out).mono ?_
  rintro e w2 ⟨rfl, hw⟩
  obtain ⟨hc, hb⟩ := wrong_facts 2 octetsWord hw
  have HC := Lib.hid hc
  have HB := Lib.hid hb
  clear hw hc hb
  go_wp2_with fail
  go_ret2
  exact ⟨_, _, rfl, HC.out, H1.out.2.trans (Fr.of_below HB.out)⟩
set_option maxHeartbeats 2000000 in
theorem xhead_form (p : Addr) (b0 b1 b2 b3 b4 b5 b6 b7 : UInt8) (bs : List UInt8) (w : World) (h : Rdr w p (b0 :: b1 :: b2 :: b3 :: b4 :: b5 :: b6 :: b7 :: bs)) (hL : bs.length ≤ 1099511627000) (hb : ¬ b0.toNat / 8 % 2 = 1) :
    Calls Tryd.prog 36 #[.pointer (some p)] w (XNo 3 [] p w) := by
  have HT := Lib.hid (U32_ok p b0 b1 b2 b3 _ w h (by simp; omega))
  have HL := Lib.hid hL
  have l0 := b0.toNat_lt
  have l1 := b1.toNat_lt
  have l2 := b2.toNat_lt
  have l3 := b3.toNat_lt
  have hx := xand ((((b0.toNat : Int) * 256 + b1.toNat) * 256 + b2.toNat) * 256 + b3.toNat) (((b0.toNat * 256 + b1.toNat) * 256 + b2.toNat) * 256 + b3.toNat) (by omega) (by omega)
  rw [if_neg (by omega)] at hx
  clear h hL hb l0 l1 l2 l3
  unfold XNo
  go_enter Tryd.func36, Tryd.ntmps36
  go_wp2_with fail
  refine HT.out.mono ?_
  rintro e w1 ⟨rfl, hr, hf, hz⟩
  have H1 := Lib.hid (And.intro hr hf)
  clear hr hf hz
  generalize (((b0.toNat : Int) * 256 + b1.toNat) * 256 + b2.toNat) * 256 + b3.toNat = X at *
  go_wp2_with fail
  refine (U32_ok p b4 b5 b6 b7 bs w1 H1.out.1 (by have := HL.out; simp; omega)).mono ?_
  rintro e w2 ⟨rfl, hr, hf, hz⟩
  have H2 := Lib.hid (And.intro hr hf)
  clear hr hf hz
  generalize (((b4.toNat : Int) * 256 + b5.toNat) * 256 + b6.toNat) * 256 + b7.toNat = Y at *
  go_wp2_with fail
  go_ret2
  exact ⟨_, _, rfl, rfl, H1.out.2.trans H2.out.2⟩
set_option maxHeartbeats 2000000 in
theorem xhead_ok (p : Addr) (b0 b1 b2 b3 b4 b5 b6 b7 : UInt8) (bs : List UInt8) (w : World) (h : Rdr w p (b0 :: b1 :: b2 :: b3 :: b4 :: b5 :: b6 :: b7 :: bs)) (hL : bs.length ≤ 1099511627000) (hb : b0.toNat / 8 % 2 = 1) :
    Calls Tryd.prog 36 #[.pointer (some p)] w fun e w' => e = .returned (.tuple #[.int .u32 (((b4.toNat : Int) * 256 + b5.toNat) * 256 + b6.toNat), .nilIface]) ∧ Rdr w' p bs ∧ Fr (· = p) w w' := by
  have HT := Lib.hid (U32_ok p b0 b1 b2 b3 _ w h (by simp; omega))
  have HL := Lib.hid hL
  have l0 := b0.toNat_lt
  have l1 := b1.toNat_lt
  have l2 := b2.toNat_lt
  have l3 := b3.toNat_lt
  have l7 := b7.toNat_lt
  have hx := xand ((((b0.toNat : Int) * 256 + b1.toNat) * 256 + b2.toNat) * 256 + b3.toNat) (((b0.toNat * 256 + b1.toNat) * 256 + b2.toNat) * 256 + b3.toNat) (by omega) (by omega)
  rw [if_pos (by omega)] at hx
  have hy : Hid (∀ Y : Int, Y = ((((b4.toNat : Int) * 256 + b5.toNat) * 256 + b6.toNat) * 256 + b7.toNat) → Y / 256 = (((b4.toNat : Int) * 256 + b5.toNat) * 256 + b6.toNat)) := by intro Y hY; omega
  clear h hL hb l0 l1 l2 l3 l7
  go_enter Tryd.func36, Tryd.ntmps36
  go_wp2_with fail
  refine HT.out.mono ?_
  rintro e w1 ⟨rfl, hr, hf, hz⟩
  have H1 := Lib.hid (And.intro hr hf)
  clear hr hf hz
  generalize (((b0.toNat : Int) * 256 + b1.toNat) * 256 + b2.toNat) * 256 + b3.toNat = X at *
  go_wp2_with fail
  refine (U32_ok p b4 b5 b6 b7 bs w1 H1.out.1 (by have := HL.out; simp; omega)).mono ?_
  rintro e w2 ⟨rfl, hr, hf, hz⟩
  have H2 := Lib.hid (And.intro hr hf)
  clear hr hf hz
  have HY := Lib.hid (hy.out _ rfl)
  generalize (((b4.toNat : Int) * 256 + b5.toNat) * 256 + b6.toNat) * 256 + b7.toNat = Y at *
  go_wp2_with fail
  go_ret2
  exact ⟨by rw [← HY.out]; rfl, H2.out.1, H1.out.2.trans H2.out.2⟩

/-- What is told where no frame comes out. -/
def XBad (n : Int) (l : List ByteArray) (w : World) (e : Ending) (w' : World) : Prop :=
  ∃ b, e = .returned (.tuple #[.int .u32 0, .slice none 0 0, .iface 92 (.pointer (some ⟨b, 0, none⟩))]) ∧ Chain w' n l (.iface 92 (.pointer (some ⟨b, 0, none⟩))) ∧ Below w.heap.size w w'
/-- What is told where one does. -/
def XGood (id : Nat) (l : List UInt8) (w : World) (e : Ending) (w' : World) : Prop :=
  ∃ g, e = .returned (.tuple #[.int .u32 (id : Int), .slice (some ⟨g, 0, none⟩) l.length l.length, .nilIface]) ∧ w.heap.size ≤ g ∧ w'.heap[g]? = some (bytesObj l) ∧ Below w.heap.size w w'
theorem xdecap_nohead {n : Int} {l : List ByteArray} {v : Value} {bs : List UInt8} {w : World} (hr : Rd w v bs) (hL : bs.length ≤ 1099511627776) (hh : ∀ p W, Rdr W p bs → Calls Tryd.prog 36 #[.pointer (some p)] W (XNo n l p W)) :
    Calls Tryd.prog 10 #[v] w (XBad n (vxWord :: l) w) := by
  have HR := Lib.hid (Read_facts v bs w hr hL)
  have HH := Lib.hid hh
  clear hr hL hh
  unfold XBad vxWord
  unfold XNo at HH
  go_enter Tryd.func10, Tryd.ntmps10
  go_wp2_with fail
  refine HR.out.mono ?_
  rintro e w1 ⟨b, rfl, hb, hr1, hB1⟩
  have H1 := Lib.hid (And.intro hb (And.intro hr1 hB1))
  clear hb hr1 hB1
  go_wp2_with fail
  refine (HH.out _ _ H1.out.2.1).mono ?_
  rintro e w2 ⟨T, u, rfl, hc, hf⟩
  have HC := Lib.hid hc
  have H2 := Lib.hid (below_to H1.out.2.2 (hf.below (B := w.heap.size) H1.out.2.2.size (fun x hx => by subst hx; exact H1.out.1)) (Nat.le_refl _))
  clear hc hf
  go_wp2_with fail
  refine (wrap_any _ _ _ _).mono ?_
  rintro e w3 ⟨rfl, hw⟩
  have HC3 := Lib.hid (chain_wrapped ⟨#[118, 120, 108, 97, 110]⟩ HC.out)
  rw [hw] at HC3
  have HB3 : Hid (Below w2.heap.size w2 w3) := by subst hw; exact (Below.refl _ _).alloc (Nat.le_refl _) _
  clear hw
  go_wp2_with fail
  go_ret3
  exact ⟨_, rfl, HC3.out, below_to H2.out HB3.out H2.out.size⟩
end Go.Proofs.YtnjohgfhagoppaaDoor
