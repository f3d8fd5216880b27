/-
  What is proved: ipv4's head (the first twenty bytes of a packet) by contract.
  Conditions: the packet's numbers fit their types, its bytes and its offset are at most 65515.
-/
import Derived.Test.YtdmogppkambgaaaDoorVRight
namespace Go.Proofs.YtdmogppkambgaaaDoor
open Go.RowKit

/-- What the first twenty bytes say. -/
structure Hd where
  first : Nat
  tos : Nat
  size : Nat
  id : Nat
  bits : Nat
  ttl : Nat
  proto : Nat
  c : Nat
  src : Nat
  dst : Nat
structure Hd.In (h : Hd) : Prop where
  first : h.first < 256
  tos : h.tos < 256
  size : h.size < 65536
  id : h.id < 65536
  bits : h.bits < 65536
  ttl : h.ttl < 256
  proto : h.proto < 256
  c : h.c < 65536
  src : h.src < 4294967296
  dst : h.dst < 4294967296
def Hd.bs (h : Hd) : List UInt8 := [UInt8.ofNat h.first] ++ [UInt8.ofNat h.tos] ++ be2 h.size ++ be2 h.id ++ be2 h.bits ++ [UInt8.ofNat h.ttl] ++ [UInt8.ofNat h.proto] ++ be2 h.c ++ be4 h.src ++ be4 h.dst
theorem Hd.bs_len (h : Hd) : h.bs.length = 20 := rfl
/-- A packet's head with a sum. -/
def Ip.hd (p : Ip) (c : Nat) : Hd := ⟨69, p.tos, 20 + p.b.length, p.id, p.bits, p.ttl, p.proto, c, p.src, p.dst⟩
theorem ibe4_len (n : Nat) : (be4 n).length = 4 := rfl
def ipWtr : Obj := .cells #[.slice none 0 0] 73
theorem u16_wrapN (v : Nat) (h : v < 65536) : IntKind.u16.wrap (v : Int) = (v : Int) := by
  have h1 : IntKind.u16.bits = 16 := rfl
  have h2 : IntKind.u16.signed = false := rfl
  simp [IntKind.wrap, h1, h2]
  omega
theorem i64_wrapI (z : Int) (h0 : 0 ≤ z) (h : z < 9223372036854775808) : IntKind.i64.wrap z = z := by
  rw [IntKind.wrap_i64]
  omega
end Go.Proofs.YtdmogppkambgaaaDoor
