/-
  What is proved: the document's Number of two bytes and of four, by contract.
  Conditions: none of its own.
-/
import Derived.Test.YtifjelinojndoaaDoorSRef
namespace Go.Proofs.YtifjelinojndoaaDoor
open Go.RowKit

set_option maxHeartbeats 1000000 in
theorem refNum2 (a b : UInt8) (w : World) : Calls Tryd.prog 16 #[.string (txt [a, b])] w fun e w' => e = .returned (.int .u32 ((a.toNat * 256 + b.toNat : Nat) : Int)) ∧ w = w' := by
  have e0 := fun W => txt_index [a, b] 0 a rfl 0 rfl W
  have e1 := fun W => txt_index [a, b] 1 b rfl 1 rfl W
  have hs : (txt [a, b]).size = 2 := rfl
  have ha := a.toNat_lt
  have hb := b.toNat_lt
  have HR : Hid (((a.toNat : Int)) * 256 + (b.toNat : Int) = ((a.toNat * 256 + b.toNat : Nat) : Int)) := by show _ = _; omega
  generalize txt [a, b] = t at *
  generalize a.toNat = x at *
  generalize b.toNat = y at *
  go_enter Tryd.func16, Tryd.ntmps16
  go_wp2_with fail
  refine wp_loop_rounds 3 ?_
  rw [rounds_succ]
  go_wp2_with fail
  rw [rounds_succ]
  go_wp2_with fail
  rw [rounds_succ]
  go_wp2_with fail
  go_ret
  exact ⟨by rw [← HR.out]; rfl, rfl⟩
set_option maxHeartbeats 1000000 in
theorem refNum4 (a b c d : UInt8) (w : World) : Calls Tryd.prog 16 #[.string (txt [a, b, c, d])] w fun e w' => e = .returned (.int .u32 ((((a.toNat * 256 + b.toNat) * 256 + c.toNat) * 256 + d.toNat : Nat) : Int)) ∧ w = w' := by
  have e0 := fun W => txt_index [a, b, c, d] 0 a rfl 0 rfl W
  have e1 := fun W => txt_index [a, b, c, d] 1 b rfl 1 rfl W
  have e2 := fun W => txt_index [a, b, c, d] 2 c rfl 2 rfl W
  have e3 := fun W => txt_index [a, b, c, d] 3 d rfl 3 rfl W
  have hs : (txt [a, b, c, d]).size = 4 := rfl
  have ha := a.toNat_lt
  have hb := b.toNat_lt
  have hc := c.toNat_lt
  have hd := d.toNat_lt
  have HR : Hid ((((a.toNat : Int) * 256 + (b.toNat : Int)) * 256 + (c.toNat : Int)) * 256 + (d.toNat : Int) = ((((a.toNat * 256 + b.toNat) * 256 + c.toNat) * 256 + d.toNat : Nat) : Int)) := by show _ = _; omega
  generalize txt [a, b, c, d] = t at *
  generalize a.toNat = x at *
  generalize b.toNat = y at *
  generalize c.toNat = z at *
  generalize d.toNat = u at *
  go_enter Tryd.func16, Tryd.ntmps16
  go_wp2_with fail
  refine wp_loop_rounds 5 ?_
  rw [rounds_succ]
  go_wp2_with fail
  rw [rounds_succ]
  go_wp2_with fail
  rw [rounds_succ]
  go_wp2_with fail
  rw [rounds_succ]
  go_wp2_with fail
  rw [rounds_succ]
  go_wp2_with fail
  go_ret
  exact ⟨by rw [← HR.out]; rfl, rfl⟩
end Go.Proofs.YtifjelinojndoaaDoor
