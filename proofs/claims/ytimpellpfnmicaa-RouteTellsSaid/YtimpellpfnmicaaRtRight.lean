/-
  What is proved: (route.Route).right by contract: from 0 to 32 bits, and nothing but noughts behind them.
  Conditions: the route's numbers fit their types.
-/
import Derived.Test.YtimpellpfnmicaaRtCut
import Derived.Deep.QuietTactic
import Derived.BigQuiet
namespace Go.Proofs.Ytimpellpfnmicaa
open Go.RowKit

def Rt.ok (r : Rt) : Bool := decide (0 ≤ r.b) && decide (r.b ≤ 32) && (cutI r.d r.b == r.d)
theorem Rt.ok_iff {r : Rt} (h : r.In) : r.ok = true ↔ r.Right := by
  unfold Rt.ok
  simp only [Bool.and_eq_true, decide_eq_true_eq, beq_iff_eq]
  exact ⟨fun ⟨⟨a, b⟩, c⟩ => ⟨h, a, b, c⟩, fun k => ⟨⟨k.b0, k.b1⟩, k.c⟩⟩

/-- A route in a box. -/
def Rt.obj (r : Rt) : Obj := .cells #[.int .u32 r.d, .int .i64 r.b, .int .u32 r.v, .int .i64 r.o] 33
structure RtAt (w : World) (g : Nat) (r : Rt) : Prop where
  c0 : w.cell? ⟨g, 0, none⟩ = some (.int .u32 r.d)
  c1 : w.cell? ⟨g, 1, none⟩ = some (.int .i64 r.b)
  c2 : w.cell? ⟨g, 2, none⟩ = some (.int .u32 r.v)
  c3 : w.cell? ⟨g, 3, none⟩ = some (.int .i64 r.o)
theorem RtAt.of_heap {w : World} {g : Nat} {r : Rt} (h : w.heap[g]? = some r.obj) : RtAt w g r := by
  unfold Rt.obj at h
  constructor <;> simp [World.cell?, h]
theorem RtAt.new (w : World) (r : Rt) : RtAt (w.alloc r.obj) w.heap.size r := RtAt.of_heap (heap_alloc_new w _)
theorem RtAt.lt {w : World} {g : Nat} {r : Rt} (h : RtAt w g r) : g < w.heap.size := World.block_lt_of_cell? w _ h.c0
theorem RtAt.below {w w' : World} {g : Nat} {r : Rt} (h : RtAt w g r) (hb : Below w.heap.size w w') : RtAt w' g r :=
  ⟨(hb.cell h.lt).trans h.c0, (hb.cell h.lt).trans h.c1, (hb.cell h.lt).trans h.c2, (hb.cell h.lt).trans h.c3⟩
theorem RtAt.drewN {w : World} {g : Nat} {r : Rt} (h : RtAt w g r) (n : Nat) : RtAt (w.drewN n) g r := ⟨h.c0, h.c1, h.c2, h.c3⟩

theorem right_any (r : Rt) (hr : r.In) (w : World) : Calls Try.prog 27 #[r.val] w fun e w' => e = .returned (.bool r.ok) ∧ Below w.heap.size w w' := by
  have hB : Below w.heap.size w (w.alloc r.obj) := (Below.refl _ w).alloc (Nat.le_refl _) _
  have hA := RtAt.new w r
  obtain ⟨d, b, v, o⟩ := r
  have hd := hr.d
  clear hr
  simp only at hd
  obtain ⟨c0, c1, _, _⟩ := hA
  simp only at c0 c1
  have hcut := fun W => cut_any d b hd W
  unfold Rt.ok Rt.val
  simp only
  unfold Rt.obj at c0 c1 hB
  simp only at c0 c1 hB
  have HB := Lib.hid hB
  clear hB hd
  generalize cutI d b = y at hcut ⊢
  obtain ⟨q, hq⟩ : ∃ q, q = (decide (0 ≤ b) && decide (b ≤ 32) && (y == d)) := ⟨_, rfl⟩
  rw [← hq]
  by_cases h0 : 0 ≤ b
  · by_cases h1 : b ≤ 32
    · have e0 : decide (0 ≤ b) = true := decide_eq_true h0
      have e1 : decide (b ≤ 32) = true := decide_eq_true h1
      have hq' : (y == d) = q := by rw [hq, e0, e1]; rfl
      clear h0 h1 hq
      go_enter Try.func27, Try.ntmps27
      go_upto_region 1 with fail
      go_quiet (first | (go_at_call 19; exact Calls.quiet_of_same (hcut _)))
      go_wp2_with fail
      go_ret
      exact ⟨rfl, below_dN HB.out _⟩
    · have e0 : decide (0 ≤ b) = true := decide_eq_true h0
      have e1 : decide (b ≤ 32) = false := decide_eq_false h1
      have hq' : q = false := by rw [hq, e0, e1]; rfl
      subst hq'
      clear h0 h1 hq
      go_enter Try.func27, Try.ntmps27
      go_upto_region 1 with fail
      go_quiet (first | (go_at_call 19; exact Calls.quiet_of_same (hcut _)))
      go_wp2_with fail
      go_ret
      exact ⟨rfl, below_dN HB.out _⟩
  · have e0 : decide (0 ≤ b) = false := decide_eq_false h0
    have hq' : q = false := by rw [hq, e0]; rfl
    subst hq'
    clear h0 hq
    go_enter Try.func27, Try.ntmps27
    go_upto_region 1 with fail
    go_quiet (first | (go_at_call 19; exact Calls.quiet_of_same (hcut _)))
    go_wp2_with fail
    go_ret
    exact ⟨rfl, below_dN HB.out _⟩
end Go.Proofs.Ytimpellpfnmicaa
