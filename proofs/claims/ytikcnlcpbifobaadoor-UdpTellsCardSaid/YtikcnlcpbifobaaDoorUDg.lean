/-
  What is proved: a UDP datagram as data: its bytes, its cells, the block that it lies in; size, ahead, must and mustBe by contract.
  Conditions: the datagram's numbers fit their types.
-/
import Derived.Test.YtikcnlcpbifobaaDoorLift
import Derived.Test.YtikcnlcpbifobaaDoorOpen
import Derived.Test.YtikcnlcpbifobaaDoorOneW
import Derived.Test.YtikcnlcpbifobaaDoorSRow
import Derived.Test.YtikcnlcpbifobaaDoorECut
import Derived.Deep.RegionHeldLaw
import Derived.Deep.RegionLaw
import Derived.Defers
import Derived.Recover
import Derived.WalkLawsBesides
namespace Go.Proofs.YtikcnlcpbifobaaDoor
open Go.RowKit

theorem be_block {W W' : World} {G : Nat} {o : Obj} (hb : Below W.heap.size W W') (h : W.heap[G]? = some o) : W'.heap[G]? = some o := (hb.block G (Array.getElem?_eq_some_iff.1 h).1).trans h
theorem vbelow_dr {B : Nat} {w W : World} (h : Below B w W) : Below B w W.drew := ⟨h.os, h.tape, h.output, h.size, h.block⟩
def udpWord : ByteArray := ⟨#[117, 100, 112]⟩
/-- A UDP datagram. -/
structure Dg where
  src : Nat
  dst : Nat
  plain : Bool
  b : List UInt8
structure Dg.In (d : Dg) : Prop where
  src : d.src < 65536
  dst : d.dst < 65536
  b : d.b.length ≤ 1099511627776
def Dg.row (d : Dg) (bv : Value) : Array Value := #[.int .u16 d.src, .int .u16 d.dst, .bool d.plain, bv]
def Dg.val (d : Dg) (bv : Value) : Value := .agg (d.row bv)
def Dg.obj (d : Dg) (bv : Value) : Obj := .cells #[.int .u16 d.src, .int .u16 d.dst, .bool d.plain, bv] 25
theorem Dg.val_lit (d : Dg) (bv : Value) : d.val bv = .agg #[.int .u16 d.src, .int .u16 d.dst, .bool d.plain, bv] := rfl
theorem dgSize : (Tryd.prog.info? 25).map (·.size) = some 4 := by kernel_rfl
theorem dgRow_one (d : Dg) (A : Option Addr) (n c : Nat) : (d.row (.slice A n c)).all (·.oneCell') = true := by simp [Dg.row, Value.oneCell']
theorem dgRow_plain (d : Dg) (A : Option Addr) (n c : Nat) : Plain (d.row (.slice A n c)) := by
  intro v hv
  simp only [Dg.row, List.mem_cons, List.not_mem_nil, or_false] at hv
  constructor <;> intros <;> rintro rfl <;> simp at hv

/-- The block of a datagram. -/
def DgAt (W : World) (G : Nat) (d : Dg) (bv : Value) : Prop := W.heap[G]? = some (d.obj bv)
section
variable {W W' : World} {G : Nat} {d : Dg} {bv : Value}
theorem DgAt.lt (h : DgAt W G d bv) : G < W.heap.size := (Array.getElem?_eq_some_iff.1 h).1
theorem DgAt.below (h : DgAt W G d bv) (hb : Below W.heap.size W W') : DgAt W' G d bv := (hb.block _ h.lt).trans h
theorem DgAt.new (w : World) (d : Dg) (bv : Value) : DgAt (w.alloc (d.obj bv)) w.heap.size d bv := heap_alloc_new w _
theorem DgAt.cells (h : DgAt W G d bv) :
    W.cell? ⟨G, 0, none⟩ = some (.int .u16 d.src) ∧ W.cell? ⟨G, 1, none⟩ = some (.int .u16 d.dst) ∧ W.cell? ⟨G, 2, none⟩ = some (.bool d.plain) ∧ W.cell? ⟨G, 3, none⟩ = some bv := by
  unfold DgAt Dg.obj at h
  refine ⟨?_, ?_, ?_, ?_⟩ <;> (rw [cell_of_row W G _ _ _ _ h]; rfl)
theorem DgAt.free (h : DgAt W G d bv) (i : Nat) : W.frozen? ⟨G, i, none⟩ = false := by
  have h' : W.heap[G]? = some (d.obj bv) := h
  unfold Dg.obj at h'
  simp [World.frozen?, h']
end

/-- A datagram's bytes. -/
def Dg.n (d : Dg) : Nat := 8 + d.b.length
def hd8 (a b n c : Nat) : List UInt8 := be2 a ++ be2 b ++ be2 n ++ be2 c
theorem hd8_len (a b n c : Nat) : (hd8 a b n c).length = 8 := rfl
def Dg.ck (d : Dg) (s t : Nat) : Nat := Proofs.YtikcnlcpbifobaaDoor.ck (psd s t 17 (d.n : Nat) ++ (hd8 d.src d.dst d.n 0 ++ d.b))
def Dg.sum (d : Dg) (s t : Nat) : Nat := if d.plain then 0 else if d.ck s t = 0 then 65535 else d.ck s t
def Dg.bs (d : Dg) (s t : Nat) : List UInt8 := hd8 d.src d.dst d.n (d.sum s t) ++ d.b
theorem Dg.bs_len (d : Dg) (s t : Nat) : (d.bs s t).length = 8 + d.b.length := by simp [Dg.bs, hd8_len]
theorem Dg.sum_lt (d : Dg) (s t : Nat) : d.sum s t < 65536 := by
  have h := ck_le (psd s t 17 (d.n : Nat) ++ (hd8 d.src d.dst d.n 0 ++ d.b))
  unfold Dg.sum Dg.ck
  split
  · omega
  · split <;> omega

/-- What is panicked with. -/
def wrongIface (T : TypeId) (u : Value) : Value := .iface 64 (.agg #[.iface T u])
theorem must16_ok (z : Int) (w : World) : Calls Tryd.prog 30 #[.int .u16 z, .nilIface] w fun e w' => e = .returned (.int .u16 z) ∧ w = w' := by
  go_enter Tryd.func30, Tryd.ntmps30
  go_wp2_with fail
  go_ret
  exact ⟨rfl, rfl⟩
theorem must16_bad (z : Int) (T : TypeId) (u : Value) (w : World) : Calls Tryd.prog 30 #[.int .u16 z, .iface T u] w fun e w' => e = .panicked [{ v := wrongIface T u, recovered := false }] ∧ w = w' := by
  unfold wrongIface
  go_enter Tryd.func30, Tryd.ntmps30
  go_wp2_with fail
  exact ⟨rfl, rfl, rfl⟩
theorem mustB_ok (A : Option Addr) (n c : Nat) (w : World) : Calls Tryd.prog 35 #[.slice A n c, .nilIface] w fun e w' => e = .returned (.slice A n c) ∧ w = w' := by
  go_enter Tryd.func35, Tryd.ntmps35
  go_wp2_with fail
  go_ret
  exact ⟨rfl, rfl⟩
theorem mustBe_ok (z : Int) (w : World) : Calls Tryd.prog 32 #[.bool true, .int .i64 z] w fun e w' => e = .returned (.tuple #[]) ∧ w = w' := by
  go_enter Tryd.func32, Tryd.ntmps32
  go_wp2_with fail
  go_end0
  exact ⟨rfl, rfl⟩
theorem mustBe_bad (z : Int) (w : World) : Calls Tryd.prog 32 #[.bool false, .int .i64 z] w fun e w' => e = .panicked [{ v := wrongIface 44 (.int .i64 z), recovered := false }] ∧ w = w' := by
  unfold wrongIface
  go_enter Tryd.func32, Tryd.ntmps32
  go_wp2_with fail
  exact ⟨rfl, rfl, rfl⟩
theorem ahead_any (s t : Nat) (n : Nat) (w : World) :
    Calls Tryd.prog 34 #[.int .u32 (s : Int), .int .u32 (t : Int), .int .i64 (n : Int)] w fun e w' => e = .returned (.slice (some ⟨w.heap.size, 0, none⟩) 12 12) ∧ w.alloc (bytesObj (psd s t 17 (n : Nat))) = w' := by
  have X := Lib.hid (Pseudo_any s t 17 (n : Nat) (by decide) w)
  go_enter Tryd.func34, Tryd.ntmps34
  go_wp2_with fail
  refine X.out.mono ?_
  rintro e w' ⟨rfl, rfl⟩
  go_wp2_with fail
  go_ret
  exact ⟨rfl, rfl⟩
theorem dgsize_any (d : Dg) (A : Option Addr) (c : Nat) (hn : d.b.length ≤ 1099511627776) (w : World) :
    Calls Tryd.prog 40 #[.agg #[.int .u16 d.src, .int .u16 d.dst, .bool d.plain, .slice A d.b.length c]] w fun e w' => e = .returned (.int .i64 ((d.n : Nat) : Int)) ∧ w.alloc (d.obj (.slice A d.b.length c)) = w' := by
  have hw : IntKind.i64.wrap (8 + (d.b.length : Int)) = ((d.n : Nat) : Int) := by
    unfold Dg.n
    rw [IntKind.wrap_i64]
    omega
  unfold Dg.obj
  clear hn
  go_enter Tryd.func40, Tryd.ntmps40
  go_wp2_with fail
  go_ret
  exact ⟨rfl, rfl⟩
end Go.Proofs.YtikcnlcpbifobaaDoor
