/-
  What is proved: an IPv4 packet as data: its head's bytes, its cells, the block that it lies in; canBeFollowed, flags and Right by contract.
  Conditions: the packet's numbers fit their types.
-/
import Derived.Test.YtdmogppkambgaaaDoorLift
import Derived.Test.YtdmogppkambgaaaDoorOpen
import Derived.Test.YtdmogppkambgaaaDoorOneW
import Derived.Test.YtdmogppkambgaaaDoorSRow
import Derived.Test.YtdmogppkambgaaaDoorECut
import Derived.Deep.RegionHeldLaw
import Derived.Deep.RegionLaw
import Derived.Laws.BitsAllLaws
namespace Go.Proofs.YtdmogppkambgaaaDoor
open Go.RowKit

def ipWord : ByteArray := ⟨#[105, 112, 118, 52]⟩
/-- An IPv4 packet. -/
structure Ip where
  tos : Nat
  id : Nat
  df : Bool
  mf : Bool
  off : Int
  ttl : Nat
  proto : Nat
  src : Nat
  dst : Nat
  b : List UInt8
structure Ip.In (p : Ip) : Prop where
  tos : p.tos < 256
  id : p.id < 65536
  off : -9223372036854775808 ≤ p.off ∧ p.off ≤ 9223372036854775807
  ttl : p.ttl < 256
  proto : p.proto < 256
  src : p.src < 4294967296
  dst : p.dst < 4294967296
  b : p.b.length ≤ 1099511627776
def Ip.row (p : Ip) (bv : Value) : Array Value := #[.int .u8 p.tos, .int .u16 p.id, .bool p.df, .bool p.mf, .int .i64 p.off, .int .u8 p.ttl, .int .u8 p.proto, .int .u32 p.src, .int .u32 p.dst, bv]
def Ip.val (p : Ip) (bv : Value) : Value := .agg (p.row bv)
def Ip.obj (p : Ip) (bv : Value) : Obj := .cells #[.int .u8 p.tos, .int .u16 p.id, .bool p.df, .bool p.mf, .int .i64 p.off, .int .u8 p.ttl, .int .u8 p.proto, .int .u32 p.src, .int .u32 p.dst, bv] 42
theorem Ip.val_lit (p : Ip) (bv : Value) : p.val bv = .agg #[.int .u8 p.tos, .int .u16 p.id, .bool p.df, .bool p.mf, .int .i64 p.off, .int .u8 p.ttl, .int .u8 p.proto, .int .u32 p.src, .int .u32 p.dst, bv] := rfl
theorem ipSize : (Tryd.prog.info? 42).map (·.size) = some 10 := by kernel_rfl
theorem ipRow_one (p : Ip) (A : Option Addr) (n c : Nat) : (p.row (.slice A n c)).all (·.oneCell') = true := by simp [Ip.row, Value.oneCell']
theorem ipRow_plain (p : Ip) (A : Option Addr) (n c : Nat) : Plain (p.row (.slice A n c)) := by
  intro v hv
  simp only [Ip.row, List.mem_cons, List.not_mem_nil, or_false] at hv
  constructor <;> intros <;> rintro rfl <;> simp at hv

/-- The block of a packet. -/
def IpAt (W : World) (G : Nat) (p : Ip) (bv : Value) : Prop := W.heap[G]? = some (p.obj bv)
section
variable {W W' : World} {G : Nat} {p : Ip} {bv : Value}
theorem IpAt.lt (h : IpAt W G p bv) : G < W.heap.size := (Array.getElem?_eq_some_iff.1 h).1
theorem IpAt.below (h : IpAt W G p bv) (hb : Below W.heap.size W W') : IpAt W' G p bv := (hb.block _ h.lt).trans h
theorem IpAt.new (w : World) (p : Ip) (bv : Value) : IpAt (w.alloc (p.obj bv)) w.heap.size p bv := heap_alloc_new w _
theorem IpAt.cells (h : IpAt W G p bv) :
    W.cell? ⟨G, 0, none⟩ = some (.int .u8 p.tos) ∧ W.cell? ⟨G, 1, none⟩ = some (.int .u16 p.id) ∧ W.cell? ⟨G, 2, none⟩ = some (.bool p.df) ∧ W.cell? ⟨G, 3, none⟩ = some (.bool p.mf) ∧ W.cell? ⟨G, 4, none⟩ = some (.int .i64 p.off) ∧
    W.cell? ⟨G, 5, none⟩ = some (.int .u8 p.ttl) ∧ W.cell? ⟨G, 6, none⟩ = some (.int .u8 p.proto) ∧ W.cell? ⟨G, 7, none⟩ = some (.int .u32 p.src) ∧ W.cell? ⟨G, 8, none⟩ = some (.int .u32 p.dst) ∧ W.cell? ⟨G, 9, none⟩ = some bv := by
  unfold IpAt Ip.obj at h
  refine ⟨?_, ?_, ?_, ?_, ?_, ?_, ?_, ?_, ?_, ?_⟩ <;> (rw [cell_of_row W G _ _ _ _ h]; rfl)
theorem IpAt.free (h : IpAt W G p bv) (i : Nat) : W.frozen? ⟨G, i, none⟩ = false := by
  have h' : W.heap[G]? = some (p.obj bv) := h
  unfold Ip.obj at h'
  simp [World.frozen?, h']
end

/-- What is wrong with a packet: 1 (argument), 7 (too large), 0 (nothing). -/
def Ip.arg (p : Ip) : Bool := decide (p.off < 0) || decide (p.off % 8 ≠ 0) || (p.mf && !(decide (0 < p.b.length) && decide (p.b.length % 8 = 0)))
def Ip.bad (p : Ip) : Nat := if p.arg then 1 else if 65515 - (p.b.length : Int) < p.off then 7 else 0
/-- The flags' bits. -/
def Ip.fl (p : Ip) : Nat := (if p.df then 16384 else 0) + (if p.mf then 8192 else 0)
/-- The two bytes of the flags and the offset. -/
def Ip.bits (p : Ip) : Nat := p.fl + (p.off / 8).toNat

theorem Ip.fl_lt (p : Ip) : p.fl ≤ 24576 := by unfold Ip.fl; split <;> split <;> omega
theorem or16_bits (m k : Nat) (hm : m = 0 ∨ m = 8192 ∨ m = 16384 ∨ m = 24576) (hk : k < 8192) : bits .or .u16 (m : Int) (k : Int) = ((m + k : Nat) : Int) := by
  have h1 : (m ||| k) = m + k := by
    have h2 : ∃ j, m = 2 ^ 13 * j := by
      rcases hm with h | h | h | h <;> subst h
      · exact ⟨0, rfl⟩
      · exact ⟨1, rfl⟩
      · exact ⟨2, rfl⟩
      · exact ⟨3, rfl⟩
    obtain ⟨j, rfl⟩ := h2
    exact (Nat.two_pow_add_eq_or_of_lt (by omega) j).symm
  rw [u16_or_nat m k (by omega) (by omega), h1]
theorem tmod8 (z : Int) (h : 0 ≤ z) : z.tmod 8 = z % 8 := Int.tmod_eq_emod_of_nonneg h
set_option maxHeartbeats 1000000 in
theorem follow_any (A : Option Addr) (n c : Nat) (w : World) :
    Calls Tryd.prog 56 #[.slice A n c] w fun e w' => e = .returned (.bool (decide (0 < n) && decide (n % 8 = 0))) ∧ w = w' := by
  by_cases h0 : n = 0
  · subst h0
    go_enter Tryd.func56, Tryd.ntmps56
    go_wp2_with fail
    go_ret
    exact ⟨rfl, rfl⟩
  · have h1 : (0 : Int) < (n : Int) := by omega
    have h2 : 0 < n := by omega
    by_cases h8 : n % 8 = 0
    · have h3 : ((n : Int) % 8 == 0) = true := by simp only [beq_iff_eq]; omega
      have h4 : (decide (0 < n) && decide (n % 8 = 0)) = true := by simp [h2, h8]
      rw [h4]
      clear h4 h8 h0 h2
      go_enter Tryd.func56, Tryd.ntmps56
      go_wp2_with fail
      go_ret
      exact ⟨rfl, rfl⟩
    · have h3 : ((n : Int) % 8 == 0) = false := by simp only [beq_eq_false_iff_ne, ne_eq]; omega
      have h4 : (decide (0 < n) && decide (n % 8 = 0)) = false := by simp [h8]
      rw [h4]
      clear h4 h8 h0 h2
      go_enter Tryd.func56, Tryd.ntmps56
      go_wp2_with fail
      go_ret
      exact ⟨rfl, rfl⟩
/-- What Right tells. -/
def RightTold (p : Ip) (w : World) (e : Ending) (w' : World) : Prop :=
  Below w.heap.size w w' ∧ ((p.bad = 0 ∧ e = .returned .nilIface) ∨ (p.bad ≠ 0 ∧ ∃ b, e = .returned (.iface 106 (.pointer (some ⟨b, 0, none⟩))) ∧ Chain w' p.bad [ipWord] (.iface 106 (.pointer (some ⟨b, 0, none⟩)))))
theorem right_wrap (p : Ip) (w W : World) (n : Nat) (hn : p.bad = n) (h0 : n ≠ 0) (hb : Below w.heap.size w W) (z : Int) (hz : z = (n : Int)) :
    Calls Tryd.prog 24 #[.string ipWord, .iface 30 (.int .i64 z)] W fun e w' => RightTold p w e w' := by
  subst hz
  refine (wrap_any _ _ _ _).mono ?_
  rintro e w' ⟨rfl, rfl⟩
  refine ⟨below_al hb _, .inr ⟨by rw [hn]; exact h0, _, rfl, ?_⟩⟩
  rw [hn]
  exact chain_one W ipWord n
end Go.Proofs.YtdmogppkambgaaaDoor
