/-
  What is proved: an ARP packet as data: its bytes, its cells, the block that it lies in.
  Conditions: none of its own.
-/
import Derived.Test.YthinmonahnbkdaaDoorESplit
import Derived.Deep.RegionHeldLaw
namespace Go.Proofs.YthinmonahnbkdaaDoor
open Go.RowKit

/-- An ARP packet. -/
structure Pkt where
  op : Nat
  sha : M6
  spa : Nat
  tha : M6
  tpa : Nat
structure Pkt.In (p : Pkt) : Prop where
  op : p.op < 65536
  spa : p.spa < 4294967296
  tpa : p.tpa < 4294967296
def arpHead : List UInt8 := [0, 1, 8, 0, 6, 4]
def Pkt.bs (p : Pkt) : List UInt8 := arpHead ++ (be2 p.op ++ (p.sha.bs ++ (be4 p.spa ++ (p.tha.bs ++ be4 p.tpa))))
theorem Pkt.bs_len (p : Pkt) : p.bs.length = 28 := rfl
def Pkt.row (p : Pkt) : Array Value := #[.int .u16 p.op, .int .u8 p.sha.a.toNat, .int .u8 p.sha.b.toNat, .int .u8 p.sha.c.toNat, .int .u8 p.sha.d.toNat, .int .u8 p.sha.e.toNat, .int .u8 p.sha.f.toNat, .int .u32 p.spa,
  .int .u8 p.tha.a.toNat, .int .u8 p.tha.b.toNat, .int .u8 p.tha.c.toNat, .int .u8 p.tha.d.toNat, .int .u8 p.tha.e.toNat, .int .u8 p.tha.f.toNat, .int .u32 p.tpa]
def Pkt.val (p : Pkt) : Value := .agg p.row
def Pkt.obj (p : Pkt) : Obj := .cells #[.int .u16 p.op, .int .u8 p.sha.a.toNat, .int .u8 p.sha.b.toNat, .int .u8 p.sha.c.toNat, .int .u8 p.sha.d.toNat, .int .u8 p.sha.e.toNat, .int .u8 p.sha.f.toNat, .int .u32 p.spa,
  .int .u8 p.tha.a.toNat, .int .u8 p.tha.b.toNat, .int .u8 p.tha.c.toNat, .int .u8 p.tha.d.toNat, .int .u8 p.tha.e.toNat, .int .u8 p.tha.f.toNat, .int .u32 p.tpa] 29
theorem Pkt.val_lit (p : Pkt) : p.val = .agg #[.int .u16 p.op, .int .u8 p.sha.a.toNat, .int .u8 p.sha.b.toNat, .int .u8 p.sha.c.toNat, .int .u8 p.sha.d.toNat, .int .u8 p.sha.e.toNat, .int .u8 p.sha.f.toNat, .int .u32 p.spa,
  .int .u8 p.tha.a.toNat, .int .u8 p.tha.b.toNat, .int .u8 p.tha.c.toNat, .int .u8 p.tha.d.toNat, .int .u8 p.tha.e.toNat, .int .u8 p.tha.f.toNat, .int .u32 p.tpa] := rfl
def noPkt : Pkt := ⟨0, .zero, 0, .zero, 0⟩
theorem pktSize : (Tryd.prog.info? 29).map (·.size) = some 15 := by kernel_rfl
theorem pktRow_one (p : Pkt) : p.row.all (·.oneCell') = true := by simp [Pkt.row, Value.oneCell']
theorem pktRow_plain (p : Pkt) : Plain p.row := by
  intro v hv
  simp only [Pkt.row, List.mem_cons, List.not_mem_nil, or_false] at hv
  constructor <;> intros <;> rintro rfl <;> simp at hv

/-- The block of a packet. -/
def PktAt (W : World) (G : Nat) (p : Pkt) : Prop := W.heap[G]? = some p.obj
section
variable {W W' : World} {G : Nat} {p : Pkt}
theorem PktAt.lt (h : PktAt W G p) : G < W.heap.size := (Array.getElem?_eq_some_iff.1 h).1
theorem PktAt.below (h : PktAt W G p) (hb : Below W.heap.size W W') : PktAt W' G p := (hb.block _ h.lt).trans h
theorem PktAt.new (w : World) (p : Pkt) : PktAt (w.alloc p.obj) w.heap.size p := heap_alloc_new w _
theorem PktAt.cells (h : PktAt W G p) :
    W.cell? ⟨G, 0, none⟩ = some (.int .u16 p.op) ∧ W.cell? ⟨G, 1, none⟩ = some (.int .u8 p.sha.a.toNat) ∧ W.cell? ⟨G, 2, none⟩ = some (.int .u8 p.sha.b.toNat) ∧ W.cell? ⟨G, 3, none⟩ = some (.int .u8 p.sha.c.toNat) ∧ W.cell? ⟨G, 4, none⟩ = some (.int .u8 p.sha.d.toNat) ∧ W.cell? ⟨G, 5, none⟩ = some (.int .u8 p.sha.e.toNat) ∧ W.cell? ⟨G, 6, none⟩ = some (.int .u8 p.sha.f.toNat) ∧
    W.cell? ⟨G, 7, none⟩ = some (.int .u32 p.spa) ∧ W.cell? ⟨G, 8, none⟩ = some (.int .u8 p.tha.a.toNat) ∧ W.cell? ⟨G, 9, none⟩ = some (.int .u8 p.tha.b.toNat) ∧ W.cell? ⟨G, 10, none⟩ = some (.int .u8 p.tha.c.toNat) ∧ W.cell? ⟨G, 11, none⟩ = some (.int .u8 p.tha.d.toNat) ∧ W.cell? ⟨G, 12, none⟩ = some (.int .u8 p.tha.e.toNat) ∧ W.cell? ⟨G, 13, none⟩ = some (.int .u8 p.tha.f.toNat) ∧
    W.cell? ⟨G, 14, none⟩ = some (.int .u32 p.tpa) := by
  unfold PktAt Pkt.obj at h
  refine ⟨?_, ?_, ?_, ?_, ?_, ?_, ?_, ?_, ?_, ?_, ?_, ?_, ?_, ?_, ?_⟩ <;> (rw [cell_of_row W G _ _ _ _ h]; rfl)
theorem PktAt.free (h : PktAt W G p) (i : Nat) : W.frozen? ⟨G, i, none⟩ = false := by
  have h' : W.heap[G]? = some p.obj := h
  unfold Pkt.obj at h'
  simp [World.frozen?, h']
theorem PktAt.sha (h : PktAt W G p) : Rd W (.slice (some ⟨G, 1, none⟩) 6 6) p.sha.bs := by
  unfold PktAt Pkt.obj at h
  refine ⟨_, 6, rfl, Nat.le_refl _, fun _ => ⟨G, 1, rfl, fun i u hu => ?_⟩⟩
  rw [cell_of_row W G _ _ _ _ h]
  match i, hu with
  | 0, hu | 1, hu | 2, hu | 3, hu | 4, hu | 5, hu => cases hu; rfl
  | i + 6, hu => cases hu
theorem PktAt.tha (h : PktAt W G p) : Rd W (.slice (some ⟨G, 8, none⟩) 6 6) p.tha.bs := by
  unfold PktAt Pkt.obj at h
  refine ⟨_, 6, rfl, Nat.le_refl _, fun _ => ⟨G, 8, rfl, fun i u hu => ?_⟩⟩
  rw [cell_of_row W G _ _ _ _ h]
  match i, hu with
  | 0, hu | 1, hu | 2, hu | 3, hu | 4, hu | 5, hu => cases hu; rfl
  | i + 6, hu => cases hu
theorem PktAt.drew (h : PktAt W G p) : PktAt W.drew G p := h
end
theorem mac_bs_len (m : M6) : m.bs.length = 6 := rfl
theorem be4_len (n : Nat) : (be4 n).length = 4 := rfl
end Go.Proofs.YthinmonahnbkdaaDoor
