/-
  What is proved: a GRE header's bytes, as lists; its box; the flags by contract.
  Conditions: none of its own.
-/
import Derived.Test.YtjnhfabgdegngaaDoorInR
import Derived.Test.YtjnhfabgdegngaaDoorOneW
import Derived.Test.YtjnhfabgdegngaaDoorSRow
namespace Go.Proofs.YtjnhfabgdegngaaDoor
open Go.RowKit

def grWord : ByteArray := ⟨#[103, 114, 101]⟩
/-- A GRE header: what it tells. -/
structure GH where
  s : Bool
  k : Bool
  key : Nat
  q : Bool
  seq : Nat
structure GH.Fit (h : GH) : Prop where
  key : h.key < 4294967296
  seq : h.seq < 4294967296
def GH.row (h : GH) : Array Value := #[.bool h.s, .bool h.k, .int .u32 (h.key : Int), .bool h.q, .int .u32 (h.seq : Int)]
def GH.obj (h : GH) : Obj := .cells h.row 24
def gr0 : GH := ⟨false, false, 0, false, 0⟩
def GH.flags (h : GH) : Nat := (if h.s then 32768 else 0) + (if h.k then 8192 else 0) + (if h.q then 4096 else 0)
theorem GH.flags_lt (h : GH) : h.flags < 65536 := by
  unfold GH.flags
  split <;> split <;> split <;> omega
/-- The bytes ahead of the frame, with the sum 'c'. -/
def GH.sumBytes (h : GH) (c : Nat) : List UInt8 := if h.s then be2 c ++ be2 0 else []
def GH.keyBytes (h : GH) : List UInt8 := if h.k then be4 h.key else []
def GH.seqBytes (h : GH) : List UInt8 := if h.q then be4 h.seq else []
def GH.first (h : GH) : List UInt8 := be2 h.flags ++ be2 25944
def GH.bytes (h : GH) (c : Nat) : List UInt8 := h.first ++ h.sumBytes c ++ h.keyBytes ++ h.seqBytes
/-- How many bytes these are. -/
def GH.at (h : GH) : Nat := 4 + (if h.s then 4 else 0) + (if h.k then 4 else 0) + (if h.q then 4 else 0)
theorem GH.at_le (h : GH) : 4 ≤ h.at ∧ h.at ≤ 16 := by unfold GH.at; split <;> split <;> split <;> omega
theorem GH.bytes_len (h : GH) (c : Nat) : (h.bytes c).length = h.at := by
  obtain ⟨s, k, x, q, y⟩ := h
  cases s <;> cases k <;> cases q <;> rfl
theorem grSize : (Tryd.prog.info? 24).map (·.size) = some 5 := by kernel_rfl
theorem GH.one (h : GH) : h.row.all (·.oneCell') = true := by simp [GH.row, Value.oneCell']
/-- At 'G' lies a box with this header. -/
structure GBox (w : World) (G : Nat) (h : GH) : Prop where
  o : w.heap[G]? = some h.obj
section
variable {w w' : World} {G : Nat} {h : GH}
theorem GBox.lt (b : GBox w G h) : G < w.heap.size := (Array.getElem?_eq_some_iff.1 b.o).1
theorem GBox.below (b : GBox w G h) (hb : Below w.heap.size w w') : GBox w' G h := ⟨(hb.block G b.lt).trans b.o⟩
theorem GBox.new (w : World) (h : GH) : GBox (w.alloc h.obj) w.heap.size h := ⟨heap_alloc_new w _⟩
theorem GBox.c0 (b : GBox w G h) : w.cell? ⟨G, 0, none⟩ = some (.bool h.s) := by rw [cell_of_row w G 0 _ _ _ b.o]; rfl
theorem GBox.c1 (b : GBox w G h) : w.cell? ⟨G, 1, none⟩ = some (.bool h.k) := by rw [cell_of_row w G 1 _ _ _ b.o]; rfl
theorem GBox.c2 (b : GBox w G h) : w.cell? ⟨G, 2, none⟩ = some (.int .u32 (h.key : Int)) := by rw [cell_of_row w G 2 _ _ _ b.o]; rfl
theorem GBox.c3 (b : GBox w G h) : w.cell? ⟨G, 3, none⟩ = some (.bool h.q) := by rw [cell_of_row w G 3 _ _ _ b.o]; rfl
theorem GBox.c4 (b : GBox w G h) : w.cell? ⟨G, 4, none⟩ = some (.int .u32 (h.seq : Int)) := by rw [cell_of_row w G 4 _ _ _ b.o]; rfl
theorem GBox.cells (b : GBox w G h) : w.cell? ⟨G, 0, none⟩ = some (.bool h.s) ∧ w.cell? ⟨G, 1, none⟩ = some (.bool h.k) ∧ w.cell? ⟨G, 2, none⟩ = some (.int .u32 (h.key : Int)) ∧ w.cell? ⟨G, 3, none⟩ = some (.bool h.q) ∧ w.cell? ⟨G, 4, none⟩ = some (.int .u32 (h.seq : Int)) := ⟨b.c0, b.c1, b.c2, b.c3, b.c4⟩
end
theorem gbelow_al {w b : World} (h : Below w.heap.size w b) (o : Obj) : Below w.heap.size w (b.alloc o) := h.alloc h.size o
theorem gor16 (a b c : Nat) (ha : a < 65536) (hb : b < 65536) (h : a ||| b = c) : bits .or .u16 (a : Int) (b : Int) = (c : Int) := by rw [u16_or_nat a b ha hb, h]
set_option maxHeartbeats 1000000 in
theorem grflags_any (h : GH) (w : World) : Calls Tryd.prog 34 #[.agg #[.bool h.s, .bool h.k, .int .u32 (h.key : Int), .bool h.q, .int .u32 (h.seq : Int)]] w fun e w' => e = .returned (.int .u16 (h.flags : Nat)) ∧ Below w.heap.size w w' := by
  have HX := Lib.hid (GBox.new w h)
  have HB := Lib.hid (gbelow_al (Below.refl w.heap.size w) h.obj)
  have o1 : bits .or .u16 0 32768 = 32768 := gor16 0 32768 32768 (by decide) (by decide) (by decide)
  have o2 : bits .or .u16 0 8192 = 8192 := gor16 0 8192 8192 (by decide) (by decide) (by decide)
  have o3 : bits .or .u16 0 4096 = 4096 := gor16 0 4096 4096 (by decide) (by decide) (by decide)
  have o4 : bits .or .u16 32768 8192 = 40960 := gor16 32768 8192 40960 (by decide) (by decide) (by decide)
  have o5 : bits .or .u16 32768 4096 = 36864 := gor16 32768 4096 36864 (by decide) (by decide) (by decide)
  have o6 : bits .or .u16 8192 4096 = 12288 := gor16 8192 4096 12288 (by decide) (by decide) (by decide)
  have o7 : bits .or .u16 40960 4096 = 45056 := gor16 40960 4096 45056 (by decide) (by decide) (by decide)
  have HF : Hid (∀ z : Int, z = ((h.flags : Nat) : Int) → Ending.returned (Value.int .u16 z) = .returned (.int .u16 (h.flags : Nat))) := fun z hz => by rw [hz]
  obtain ⟨s, k, x, q, y⟩ := h
  go_enter Tryd.func34, Tryd.ntmps34
  go_upto_region 1 with fail
  generalize hW : w.alloc (GH.obj ⟨s, k, x, q, y⟩) = W at HX HB
  unfold GH.obj GH.row at hW
  simp only at hW
  rw [hW]
  clear hW
  have HG : Hid (w.heap.size < W.heap.size) := HX.out.lt
  obtain ⟨c0, c1, c2, c3, c4⟩ := HX.out.cells
  generalize hG : w.heap.size = G at *
  have HQ := Lib.hid hG
  clear HX c2 c4 HG hG
  cases s <;> cases k <;> cases q
  all_goals
    go_wp2_with fail
    go_ret
    exact ⟨HF.out _ (by unfold GH.flags; simp), HQ.out ▸ HB.out⟩
end Go.Proofs.YtjnhfabgdegngaaDoor
