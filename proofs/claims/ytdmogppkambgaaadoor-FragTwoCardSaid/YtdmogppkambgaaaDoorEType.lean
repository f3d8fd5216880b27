/-
  What is proved: ether's readType and readFrame by contract.
  Conditions: the reader holds fewer than 2^40 bytes.
-/
import Derived.Test.YtdmogppkambgaaaDoorEAddr
namespace Go.Proofs.YtdmogppkambgaaaDoor
open Go.RowKit

/-- A frame: its parts. -/
structure Frm where
  dst : M6
  src : M6
  vlan : Int
  ty : Nat
  b : List UInt8
/-- A tag's bytes: none without a tag. -/
def tagBs (vlan : Int) : List UInt8 := if vlan = -1 then [] else [0x81, 0] ++ be2 vlan.toNat
/-- A frame's bytes behind its addresses. -/
def Frm.tail (f : Frm) : List UInt8 := tagBs f.vlan ++ be2 f.ty ++ f.b
def Frm.bs (f : Frm) : List UInt8 := f.dst.bs ++ (f.src.bs ++ f.tail)
/-- A frame that has bytes, but for its size. -/
structure Frm.Ok (f : Frm) : Prop where
  ty : f.ty < 65536
  tag : (f.vlan = -1 ∧ f.ty ≠ 33024) ∨ (0 ≤ f.vlan ∧ f.vlan ≤ 65535)
/-- Bytes that end too early behind the addresses. -/
def TShort (bs : List UInt8) : Prop := bs.length < 2 ∨ (∃ r, bs = 0x81 :: 0 :: r ∧ r.length < 4)

theorem be2_val (n : Nat) (h : n < 65536) : ((UInt8.ofNat (n / 256)).toNat : Int) * 256 + (UInt8.ofNat n).toNat = n := by
  rw [ofNat_lt, ofNat_lt]
  omega

theorem Fr.of_setEx {w w' : World} {p : Addr} (h : ∃ v, w.setCell p v = w') : Fr (· = p) w w' := by
  obtain ⟨v, rfl⟩ := h
  exact Fr.of_set w p v rfl

/-- An error of octets, told as 'ErrShort'. -/
def ErrAt (w : World) (b : Nat) : Prop := Chain w 2 [octetsWord] (.iface 106 (.pointer (some ⟨b, 0, none⟩)))

end Go.Proofs.YtdmogppkambgaaaDoor
