/-
  What is proved: '==' and '!=' of two routes: they are the same in all four numbers.
  Conditions: none.
-/
import Derived.Test.YtimpellpfnmicaaRtRight
import Derived.Laws.StructEq
namespace Go.Proofs.Ytimpellpfnmicaa
open Go.RowKit

def eqB (s r : Rt) : Bool := s.d == r.d && (s.b == r.b && (s.v == r.v && s.o == r.o))
theorem eqB_iff {s r : Rt} : eqB s r = true ↔ s = r := by
  unfold eqB
  simp only [Bool.and_eq_true, beq_iff_eq]
  exact ⟨fun ⟨a, b, c, d⟩ => Rt.eq a b c d, fun h => by subst h; exact ⟨rfl, rfl, rfl, rfl⟩⟩
theorem eqB_ne {s r : Rt} (h : s ≠ r) : eqB s r = false := by
  cases e : eqB s r with
  | true => exact absurd (eqB_iff.1 e) h
  | false => rfl
theorem rt_eqGuard : Try.prog.eqGuardType Try.prog.depth 33 = false := by kernel_rfl
theorem rt_eql (s r : Rt) (w : World) : (binOp .eql 33 (.agg #[.int .u32 s.d, .int .i64 s.b, .int .u32 s.v, .int .i64 s.o]) (.agg #[.int .u32 r.d, .int .i64 r.b, .int .u32 r.v, .int .i64 r.o])).run Try.prog w = .ok (.bool (eqB s r)) w := by
  have u3 := Try.underlying3
  have a3 := Try.isAgg3
  have z3 := Try.sizeOf3
  have u4 := Try.underlying31
  have a4 := Try.isAgg31
  have z4 := Try.sizeOf31
  have hS : Try.prog.underlying 33 = some (.struct (Try.prog.fieldsOf 33)) := by kernel_rfl
  have hp : Try.prog.stoodInHeld 33 = false := by kernel_rfl
  rw [run_eql_struct, show (10000 : Nat) = 9999 + 1 from rfl, run_equalIn_agg w 9999 33 _ _ hS hp]
  simp only [Program.fieldsOf, Try.underlying33]
  go_simp
  unfold eqB
  by_cases h1 : s.d = r.d <;> by_cases h2 : s.b = r.b <;> by_cases h3 : s.v = r.v <;> by_cases h4 : s.o = r.o <;> simp [h1, h2, h3, h4]
theorem rt_neq (s r : Rt) (w : World) : (binOp .neq 33 (.agg #[.int .u32 s.d, .int .i64 s.b, .int .u32 s.v, .int .i64 s.o]) (.agg #[.int .u32 r.d, .int .i64 r.b, .int .u32 r.v, .int .i64 r.o])).run Try.prog w = .ok (.bool (!eqB s r)) w := by
  have h := rt_eql s r w
  rw [run_eql_struct] at h
  rw [run_neq_struct]
  generalize (Op.equalIn 10000 33 (.agg #[.int .u32 s.d, .int .i64 s.b, .int .u32 s.v, .int .i64 s.o]) (.agg #[.int .u32 r.d, .int .i64 r.b, .int .u32 r.v, .int .i64 r.o])).run Try.prog w = X at h ⊢
  cases X with
  | ok b w' =>
    simp [Result.andThen] at h ⊢
    rw [h.1]
    exact ⟨rfl, h.2⟩
  | _ => simp [Result.andThen] at h
end Go.Proofs.Ytimpellpfnmicaa
