/-
  What is proved: RouteCuts by contract: the law returns true, and older memory is as it was.
  Conditions: the address fits its type.
-/
import Derived.Test.YtimpellpfnmicaaRtShown
namespace Go.Proofs.Ytimpellpfnmicaa
open Go.RowKit

theorem min_run {P : Program} (ats : Array TypeId) (ty : TypeId) (a b k : Int) (h : k = min a b) (W : World) : (Builtin.min_ ats ty #[.int .i64 a, .int .i64 b]).run P W = .ok (.int .i64 k) W := by
  subst h
  by_cases hba : b < a
  · simp [Builtin.min_, Builtin.min2, hba]
    omega
  · simp [Builtin.min_, Builtin.min2, hba]
    omega
set_option maxRecDepth 100000 in
set_option maxHeartbeats 4000000 in
theorem routeCuts_con (x a b : Int) (w : World) (hx : U32 x) :
    Calls Try.prog 6 #[.int .u32 x, .int .i64 a, .int .i64 b] w fun e w' => e = .returned (.bool true) ∧ Below w.heap.size w w' := by
  obtain ⟨m, hm⟩ : ∃ m, m = min a b := ⟨_, rfl⟩
  obtain ⟨u, hu⟩ : ∃ u, u = cutI x a := ⟨_, rfl⟩
  obtain ⟨v, hv⟩ : ∃ v, v = cutI x m := ⟨_, rfl⟩
  have hux : U32 u := by rw [hu]; exact cut_u32 hx a
  have hvx : U32 v := by rw [hv]; exact cut_u32 hx m
  have X0 := Lib.hid (fun W => shown_any W)
  have X1 := Lib.hid (fun W => cut_any x a hx W)
  have X2 := Lib.hid (fun W => cut_any u b hux W)
  have X3 := Lib.hid (fun W => cut_any x m hx W)
  have X4 := Lib.hid (fun W => cut_any x 32 hx W)
  have X5 := Lib.hid (fun W => cut_any x 0 hx W)
  have X6 := Lib.hid (fun W => cut_any v m hvx W)
  have e2 : cutI u b = v := by rw [hu, hv, hm, cut_cut]
  have e6 : cutI v m = v := by rw [hv, cut_cut, Int.min_self]
  rw [← hu] at X1
  rw [e2] at X2
  rw [← hv] at X3
  rw [cut_32] at X4
  rw [cut_0 hx.1 hx.2] at X5
  rw [e6] at X6
  have hle : decide (v ≤ x) = true := decide_eq_true (by rw [hv]; exact (cut_le hx.1 m).2)
  have hmin := fun W => min_run (P := Try.prog) #[3, 3] 3 a b m hm W
  clear e2 e6 hu hv hm hux hvx hx
  go_enter Try.func6, Try.ntmps6
  go_wp2_with (first
    | (go_at_call 9; refine (X0.out _).mono ?_; rintro e w1 ⟨rfl, hB⟩; (have B1 := Lib.hid hB); clear hB)
    | (go_at_call 19; (with_reducible refine (X1.out _).mono ?_); rintro e w2 ⟨rfl, rfl⟩)
    | (go_at_call 19; (with_reducible refine (X2.out _).mono ?_); rintro e w2 ⟨rfl, rfl⟩)
    | (go_at_call 19; (with_reducible refine (X3.out _).mono ?_); rintro e w2 ⟨rfl, rfl⟩)
    | (go_at_call 19; (with_reducible refine (X4.out _).mono ?_); rintro e w2 ⟨rfl, rfl⟩)
    | (go_at_call 19; (with_reducible refine (X5.out _).mono ?_); rintro e w2 ⟨rfl, rfl⟩)
    | (go_at_call 19; (with_reducible refine (X6.out _).mono ?_); rintro e w2 ⟨rfl, rfl⟩))
  go_ret
  exact ⟨rfl, B1.out⟩
end Go.Proofs.Ytimpellpfnmicaa
