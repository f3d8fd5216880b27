/-
  What is proved: a frame in a box of its own: its fields, and what a store into one of them leaves.
  Conditions: none of its own.
-/
import Derived.Test.YtifjelinojndoaaDoorELift
import Derived.Deep.RegionLaw
import Derived.Deep.DeepCutAuto
import Derived.Laws.BitsAllLaws
namespace Go.Proofs.YtifjelinojndoaaDoor
open Go.RowKit

section
variable {w W W' : World} {G : Nat} {f : Frm} {bv : Value}
/-- A frame lies in the block 'G'. -/
def BoxAt (W : World) (G : Nat) (f : Frm) (bv : Value) : Prop := W.heap[G]? = some (f.obj bv)
theorem BoxAt.lt (h : BoxAt W G f bv) : G < W.heap.size := (Array.getElem?_eq_some_iff.1 h).1
theorem BoxAt.below (h : BoxAt W G f bv) (hb : Below W.heap.size W W') : BoxAt W' G f bv := (hb.block _ h.lt).trans h
theorem BoxAt.new (w : World) (f : Frm) (bv : Value) : BoxAt (w.alloc (f.obj bv)) w.heap.size f bv := heap_alloc_new w _
theorem BoxAt.cells (h : BoxAt W G f bv) :
    W.cell? ⟨G, 0, none⟩ = some (.int .u8 f.dst.a.toNat) ∧ W.cell? ⟨G, 1, none⟩ = some (.int .u8 f.dst.b.toNat) ∧ W.cell? ⟨G, 2, none⟩ = some (.int .u8 f.dst.c.toNat) ∧ W.cell? ⟨G, 3, none⟩ = some (.int .u8 f.dst.d.toNat) ∧ W.cell? ⟨G, 4, none⟩ = some (.int .u8 f.dst.e.toNat) ∧ W.cell? ⟨G, 5, none⟩ = some (.int .u8 f.dst.f.toNat) ∧
    W.cell? ⟨G, 6, none⟩ = some (.int .u8 f.src.a.toNat) ∧ W.cell? ⟨G, 7, none⟩ = some (.int .u8 f.src.b.toNat) ∧ W.cell? ⟨G, 8, none⟩ = some (.int .u8 f.src.c.toNat) ∧ W.cell? ⟨G, 9, none⟩ = some (.int .u8 f.src.d.toNat) ∧ W.cell? ⟨G, 10, none⟩ = some (.int .u8 f.src.e.toNat) ∧ W.cell? ⟨G, 11, none⟩ = some (.int .u8 f.src.f.toNat) ∧
    W.cell? ⟨G, 12, none⟩ = some (.int .i64 f.vlan) ∧ W.cell? ⟨G, 13, none⟩ = some (.int .u16 f.ty) ∧ W.cell? ⟨G, 14, none⟩ = some bv := by
  have h' : W.heap[G]? = some (f.obj bv) := h
  unfold Frm.obj at h'
  refine ⟨?_, ?_, ?_, ?_, ?_, ?_, ?_, ?_, ?_, ?_, ?_, ?_, ?_, ?_, ?_⟩ <;> (rw [cell_of_row W G _ _ _ _ h']; rfl)
theorem BoxAt.free (h : BoxAt W G f bv) (i : Nat) : W.frozen? ⟨G, i, none⟩ = false := by
  have h' : W.heap[G]? = some (f.obj bv) := h
  unfold Frm.obj at h'
  simp [World.frozen?, h']
theorem heap_set (W : World) (G k : Nat) (v : Value) : (W.setCell ⟨G, k, none⟩ v).heap[G]? = (W.heap[G]?).map fun
      | .cells cs t fr => .cells (cs.set! k v) t fr
      | o => o := by
  unfold World.setCell
  simp only [Array.getElem?_modify, if_true]
  cases W.heap[G]? with
  | none => rfl
  | some o => cases o <;> rfl
theorem BoxAt.set14 (h : BoxAt W G f bv) (v : Value) : BoxAt (W.setCell ⟨G, 14, none⟩ v) G f v := by
  have h' : W.heap[G]? = some (f.obj bv) := h
  unfold BoxAt
  rw [heap_set, h']
  rfl
theorem BoxAt.set12 (h : BoxAt W G f bv) (z : Int) : BoxAt (W.setCell ⟨G, 12, none⟩ (.int .i64 z)) G ⟨f.dst, f.src, z, f.ty, f.b⟩ bv := by
  have h' : W.heap[G]? = some (f.obj bv) := h
  unfold BoxAt
  rw [heap_set, h']
  rfl
/-- The bytes of a frame do not matter for its box. -/
theorem BoxAt.bytes (h : BoxAt W G f bv) (b : List UInt8) : BoxAt W G ⟨f.dst, f.src, f.vlan, f.ty, b⟩ bv := h
/-- A store into the box: what the chain of an error, or a row of bytes elsewhere, is. -/
theorem Chain.boxed {n : Int} {l : List ByteArray} {v : Value} (h : Chain W n l v) (hb : BoxAt W G f bv) (hp : (∀ s, bv ≠ .string s) ∧ ∀ T u, bv ≠ .iface T u) (i : Nat) (x : Value) : Chain (W.setCell ⟨G, i, none⟩ x) n l v := by
  have hpl : Plain #[.int .u8 f.dst.a.toNat, .int .u8 f.dst.b.toNat, .int .u8 f.dst.c.toNat, .int .u8 f.dst.d.toNat, .int .u8 f.dst.e.toNat, .int .u8 f.dst.f.toNat,
    .int .u8 f.src.a.toNat, .int .u8 f.src.b.toNat, .int .u8 f.src.c.toNat, .int .u8 f.src.d.toNat, .int .u8 f.src.e.toNat, .int .u8 f.src.f.toNat, .int .i64 f.vlan, .int .u16 f.ty, bv] := by
    intro y hy
    simp only [List.mem_cons, List.not_mem_nil, or_false] at hy
    rcases hy with rfl | rfl | rfl | rfl | rfl | rfl | rfl | rfl | rfl | rfl | rfl | rfl | rfl | rfl | rfl
    all_goals first | exact hp | exact ⟨(fun _ e => by cases e), (fun _ _ e => by cases e)⟩
  have hg : W.heap[G]? = some (.cells _ 27 (0, 0)) := hb
  exact h.fr2 (Fr.of_set (p := (· = ⟨G, i, none⟩)) W _ x rfl) (fun a s e => by cases e; exact (Plain.cell (w := W) (a := ⟨G, i, none⟩) hpl hg).1 s) (fun a T u e => by cases e; exact (Plain.cell (w := W) (a := ⟨G, i, none⟩) hpl hg).2 T u)
theorem Rd.over {v : Value} {bs : List UInt8} (h : Rd W v bs) (a : Addr) (ha : ∀ u, W.cell? a ≠ some (B8 u)) (x : Value) : Rd (W.setCell a x) v bs :=
  h.fr (Fr.of_set (p := (· = a)) W a x rfl) (fun y u hu e => by cases e; exact ha u hu)
theorem Rd.over12 {v : Value} {bs : List UInt8} (h : Rd W v bs) (hb : BoxAt W G f bv) (x : Value) : Rd (W.setCell ⟨G, 12, none⟩ x) v bs := by
  obtain ⟨_, _, _, _, _, _, _, _, _, _, _, _, h12, _, _⟩ := hb.cells
  exact h.over _ (fun u e => by rw [h12] at e; cases e) x
theorem Rd.over14 {v : Value} {bs : List UInt8} {A : Option Addr} {n c : Nat} (h : Rd W v bs) (hb : BoxAt W G f (.slice A n c)) (x : Value) : Rd (W.setCell ⟨G, 14, none⟩ x) v bs := by
  obtain ⟨_, _, _, _, _, _, _, _, _, _, _, _, _, _, h14⟩ := hb.cells
  exact h.over _ (fun u e => by rw [h14] at e; cases e) x
theorem Rd.drewN {v : Value} {bs : List UInt8} (h : Rd W v bs) (k : Nat) : Rd (W.drewN k) v bs := h.keep (fun _ _ h => h)
theorem Rd.frontAt {A : Option Addr} {n c K : Nat} {bs : List UInt8} (h : Rd W (.slice A n c) bs) (hK : K ≤ bs.length) : Rd W (.slice A K c) (bs.take K) := by
  have e : n = bs.length := by obtain ⟨A', c', e, _⟩ := h; cases e; rfl
  subst e
  exact h.front hK
theorem Rd.backAt {g o n c K : Nat} {bs : List UInt8} (h : Rd W (.slice (some ⟨g, o, none⟩) n c) bs) (hK : K ≤ bs.length) : Rd W (.slice (some ⟨g, o + K, none⟩) (n - K) (c - K)) (bs.drop K) := by
  obtain ⟨A', c', hv', hc', hr⟩ := h
  cases hv'
  refine ⟨some ⟨g, o + K, none⟩, c - K, by rw [List.length_drop], by rw [List.length_drop]; omega, fun h0 => ⟨g, o + K, rfl, fun i u hu => ?_⟩⟩
  rw [List.length_drop] at h0
  obtain ⟨g', o', e, hi⟩ := hr (by omega)
  cases e
  rw [List.getElem?_drop] at hu
  rw [Nat.add_assoc]
  exact hi (K + i) u hu
end
theorem below_drewN {B : Nat} {w W : World} (h : Below B w W) (n : Nat) : Below B w (W.drewN n) := ⟨h.os, h.tape, h.output, h.size, h.block⟩
theorem i64_fits (z : Int) (h1 : -9223372036854775808 ≤ z) (h2 : z ≤ 9223372036854775807) : IntKind.i64.wrap z = z := by
  have a : IntKind.i64.bits = 64 := rfl
  have b : IntKind.i64.signed = true := rfl
  simp only [IntKind.wrap, a, b]
  simp
  split <;> omega
theorem be2_len (n : Nat) : (be2 n).length = 2 := rfl
theorem bs_front (dst src : M6) (v : Int) (ty : Nat) (b : List UInt8) : (Frm.bs ⟨dst, src, v, ty, b⟩).take 12 = dst.bs ++ src.bs := rfl
theorem bs_plain (dst src : M6) (ty : Nat) (b : List UInt8) : (Frm.bs ⟨dst, src, -1, ty, b⟩).drop 12 = be2 ty ++ b := rfl
theorem bs_tagged (dst src : M6) (t ty : Nat) (b : List UInt8) : (Frm.bs ⟨dst, src, t, ty, b⟩).drop 16 = be2 ty ++ b := by
  unfold Frm.bs Frm.tail tagBs
  rw [if_neg (by simp only; omega)]
  rfl
end Go.Proofs.YtifjelinojndoaaDoor
