/-
  What is proved: api.Code tells the number at the end of a chain of wrapped errors (errors.As at an Errno variable, Go's own text walked), and leaves all older memory as it was.
  Conditions: errors.errorType holds the handle of the type error.
-/
import Derived.Test.YtjnhfabgdegngaaProg
import Derived.WalkKit
import Derived.LaidEql
import Derived.Stop.Asserts
import Derived.RowKitTokens
import Derived.Below
import Derived.Outline
import Derived.Lib.Hide
import Derived.Deep.LoopGhost
import Derived.Deep.Draws
namespace Go.Proofs.Ytjnhfabgdegngaa
open Go.RowKit Go.Extern.Stop Go.Stop Go.Extern

theorem asMethodKind (h : Value) (w : World) : (Go.method 248 87 (.agg #[h]) "Kind").run Try.prog w = .ok (74, h) w := by kernel_rfl
theorem asMethodElem (h : Value) (w : World) : (Go.method 248 87 (.agg #[h]) "Elem").run Try.prog w = .ok (78, .agg #[h]) w := by kernel_rfl
theorem asMethodImplements (h : Value) (w : World) : (Go.method 248 87 (.agg #[h]) "Implements").run Try.prog w = .ok (79, .agg #[h]) w := by kernel_rfl
theorem asMethodAssignableTo (h : Value) (w : World) : (Go.method 248 87 (.agg #[h]) "AssignableTo").run Try.prog w = .ok (76, .agg #[h]) w := by kernel_rfl
theorem asMethodUnwrap (p : Addr) (w : World) : (Go.method 248 71 (.pointer (some p)) "Unwrap").run Try.prog w = .ok (73, .pointer (some p)) w := by kernel_rfl
theorem asKindE (w : World) : ((ReflectliteType.abiMethod fun t => (fun a : Nat => Value.int IntKind.u8 (a : Int)) <$> Rtype.kind t) #[.pointer (some ⟨3, 36, none⟩)]).run Try.prog w = .ok (.int .u8 2) w := by kernel_rfl
theorem asImplements (w : World) : (ReflectliteType.relation "Implements" ReflectliteType.implements_ #[.agg #[.pointer (some ⟨3, 36, none⟩)], .iface 87 (.agg #[.pointer (some ⟨3, 29, none⟩)])]).run Try.prog w = .ok (.bool true) w := by kernel_rfl
theorem asTypeOfW (v : Value) (w : World) : (ReflectliteType.typeOf #[.iface 71 v]).run Try.prog w = .ok (.iface 87 (.agg #[.pointer (some ⟨3, 71, none⟩)])) w := by kernel_rfl
theorem asTypeOfE (v : Value) (w : World) : (ReflectliteType.typeOf #[.iface 36 v]).run Try.prog w = .ok (.iface 87 (.agg #[.pointer (some ⟨3, 36, none⟩)])) w := by kernel_rfl
theorem asAssignW (w : World) : (ReflectliteType.relation "AssignableTo" ReflectliteType.assignableTo #[.agg #[.pointer (some ⟨3, 71, none⟩)], .iface 87 (.agg #[.pointer (some ⟨3, 36, none⟩)])]).run Try.prog w = .ok (.bool false) w := by kernel_rfl
theorem asAssignE (w : World) : (ReflectliteType.relation "AssignableTo" ReflectliteType.assignableTo #[.agg #[.pointer (some ⟨3, 36, none⟩)], .iface 87 (.agg #[.pointer (some ⟨3, 36, none⟩)])]).run Try.prog w = .ok (.bool true) w := by kernel_rfl
theorem asValueOfE (n : Int) (w : World) : (ReflectliteValue.unpack (.iface 36 (.int .i64 n))).run Try.prog w
    = .ok (.agg #[.pointer (some ⟨3, 36, none⟩), .pointer (some ⟨w.heap.size, 0, none⟩), .int .u64 130]) (w.alloc (.cells #[.int .i64 n] 36)) := by kernel_rfl
theorem asUnwraps (v : Value) (xT : TypeId) (w : World) : (Instr.typeAssert (.iface 71 v) xT 92 true).run Try.prog w = .ok (.tuple #[.iface 71 v, .bool true]) w :=
  run_typeAssert_hasB Try.underlying92 (by kernel_rfl) v xT w

/-- A reflectlite method at one Value, its parts read first. -/
theorem rlMethod (z : Sem Value) (f : TypeId → Addr → Nat → Nat → Sem Value) (v : Value) :
    ReflectliteValue.method z f #[v] = (do match ← ReflectliteValue.parts v with | none => z | some (t, a, fl) => f t a fl (fl % 32)) := rfl
theorem asPartsE (a : Addr) (w : World) : (ReflectliteValue.parts (.agg #[.pointer (some ⟨3, 36, none⟩), .pointer (some a), .int .u64 130])).run Try.prog w = .ok (some (36, a, 130)) w := by kernel_rfl
theorem asPartsEa (a : Addr) (w : World) : (ReflectliteValue.parts (.agg #[.pointer (some ⟨3, 36, none⟩), .pointer (some a), .int .u64 386])).run Try.prog w = .ok (some (36, a, 386)) w := by kernel_rfl
theorem asMk (p : Addr) (w : World) : (ReflectliteValue.mk 36 p ReflectliteValue.flagAddr).run Try.prog w = .ok (.agg #[.pointer (some ⟨3, 36, none⟩), .pointer (some p), .int .u64 386]) w := by kernel_rfl
theorem asDirect (w : World) : (Rtype.directlyAssignable 36 36).run Try.prog w = .ok true w := by kernel_rfl
/-- (Value).Set of an Errno variable. -/
theorem asSet (ta b : Addr) (n : Int) (old : Value) (W : World) (hb : W.cell? b = some (.int .i64 n)) (ht : W.cell? ta = some old) (hf : W.frozen? ta = false) :
    (ReflectliteValue.set #[.agg #[.pointer (some ⟨3, 36, none⟩), .pointer (some ta), .int .u64 386], .agg #[.pointer (some ⟨3, 36, none⟩), .pointer (some b), .int .u64 130]]).run Try.prog W
      = .ok (.tuple #[]) (W.setCell ta (.int .i64 n)) := by
  generalize hv : Value.agg #[.pointer (some ⟨3, 36, none⟩), .pointer (some ta), .int .u64 386] = v
  generalize hx : Value.agg #[.pointer (some ⟨3, 36, none⟩), .pointer (some b), .int .u64 130] = x
  have hpv : (ReflectliteValue.parts v).run Try.prog W = .ok (some (36, ta, 386)) W := by rw [← hv]; exact asPartsEa ta W
  have hpx : (ReflectliteValue.parts x).run Try.prog W = .ok (some (36, b, 130)) W := by rw [← hx]; exact asPartsE b W
  clear hv hx
  delta ReflectliteValue.set ReflectliteValue.set.match_3
  have h2 : (#[v, x] : Array Value).size = 2 := rfl
  rw [dif_pos h2]
  dsimp only
  have e0 : ∀ h1 h2, (#[v, x] : Array Value).getLit (n := 2) 0 h1 h2 = v := fun _ _ => rfl
  have e1 : ∀ h1 h2, (#[v, x] : Array Value).getLit (n := 2) 1 h1 h2 = x := fun _ _ => rfl
  simp only [e0, e1, Sem.run_bind, hpv, hpx, Result.andThen]
  simp [ReflectliteValue.flagAddr, loadVar, isAgg, underlying, Try.underlying36, hb, Result.andThen, asDirect, storeVar, Value.cells, storeCells, Addr.add]
  rw [run_store Try.prog W ta _ _ (by rfl)]
  simp [ht, hf]

/-- An error that is the number 'n' behind the layers' names. -/
def Chain (w : World) (n : Int) : List ByteArray → Value → Prop
  | [], v => v = .iface 36 (.int .i64 n)
  | s :: r, v => ∃ b x, v = .iface 71 (.pointer (some ⟨b, 0, none⟩)) ∧ w.cell? ⟨b, 0, none⟩ = some (.string s) ∧ w.cell? ⟨b, 1, none⟩ = some x ∧ Chain w n r x

theorem Chain.keep {w w' : World} {n : Int} (hk : ∀ a v, w.cell? a = some v → w'.cell? a = some v) : ∀ {l : List ByteArray} {v : Value}, Chain w n l v → Chain w' n l v
  | [], _, h => h
  | _ :: _, _, ⟨b, x, hv, h0, h1, h2⟩ => ⟨b, x, hv, hk _ _ h0, hk _ _ h1, Chain.keep hk h2⟩
theorem Chain.below {w w' : World} {n : Int} {l : List ByteArray} {v : Value} (h : Chain w n l v) (hb : Below w.heap.size w w') : Chain w' n l v :=
  h.keep fun a _ hu => (hb.cell (World.block_lt_of_cell? w a hu)).trans hu

theorem Chain.held {w : World} {n : Int} : ∀ {l : List ByteArray} {v : Value}, Chain w n l v → ∃ T u, v = .iface T u
  | [], _, h => ⟨_, _, h⟩
  | _ :: _, _, ⟨_, _, hv, _⟩ => ⟨_, _, hv⟩

theorem unwrap_any (b : Nat) (x : Value) (w : World) (h : w.cell? ⟨b, 1, none⟩ = some x) :
    Calls Try.prog 73 #[.pointer (some ⟨b, 0, none⟩)] w fun e w' => e = .returned x ∧ w = w' := by
  go_enter Try.func73, Try.ntmps73
  go_wp2
  go_ret
  exact ⟨rfl, rfl⟩
end Go.Proofs.Ytjnhfabgdegngaa
