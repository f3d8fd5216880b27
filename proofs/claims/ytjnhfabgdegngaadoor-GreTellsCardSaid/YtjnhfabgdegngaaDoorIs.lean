/-
  What is proved: errors.Is at a chain of wrapped errors and a number (Go's own text walked): true just if the chain ends in this number.
  Conditions: none of its own.
-/
import Derived.Test.YtjnhfabgdegngaaDoorText
import Derived.Lib.IfaceEq
namespace Go.Proofs.YtjnhfabgdegngaaDoor
open Go.RowKit Go.Extern.Stop Go.Stop Go.Extern

theorem isComparable (w : World) : ((ReflectliteType.method fun t => do Rtype.noPackHeld "Comparable" t; (fun a => Value.bool a.comparable) <$> typeInfo t) #[.agg #[.pointer (some ⟨4, 32, none⟩)]]).run Tryd.prog w = .ok (.bool true) w := by kernel_rfl
theorem isMethodComparable (h : Value) (w : World) : (Go.method 266 95 (.agg #[h]) "Comparable").run Tryd.prog w = .ok (90, .agg #[h]) w := by kernel_rfl
theorem isComp : (Tryd.prog.info? 32).map (·.comparable) = some true := by kernel_rfl
theorem isNoIsW (v : Value) (xT : TypeId) (w : World) : (Instr.typeAssert (.iface 74 v) xT 97 true).run Tryd.prog w = .ok (.tuple #[.nilIface, .bool false]) w :=
  run_typeAssert_lacksB Tryd.underlying97 (by kernel_rfl) (by kernel_rfl) v xT w
theorem isNoIsE (v : Value) (xT : TypeId) (w : World) : (Instr.typeAssert (.iface 32 v) xT 97 true).run Tryd.prog w = .ok (.tuple #[.nilIface, .bool false]) w :=
  run_typeAssert_lacksB Tryd.underlying97 (by kernel_rfl) (by kernel_rfl) v xT w
theorem isUnwrapW (v : Value) (xT : TypeId) (w : World) : (Instr.typeAssert (.iface 74 v) xT 100 true).run Tryd.prog w = .ok (.tuple #[.iface 74 v, .bool true]) w :=
  run_typeAssert_hasB Tryd.underlying100 (by kernel_rfl) v xT w
theorem isNoUnwrapE (v : Value) (xT : TypeId) (w : World) : (Instr.typeAssert (.iface 32 v) xT 100 true).run Tryd.prog w = .ok (.tuple #[.nilIface, .bool false]) w :=
  run_typeAssert_lacksB Tryd.underlying100 (by kernel_rfl) (by kernel_rfl) v xT w
theorem isNoUnwrapsE (v : Value) (xT : TypeId) (w : World) : (Instr.typeAssert (.iface 32 v) xT 102 true).run Tryd.prog w = .ok (.tuple #[.nilIface, .bool false]) w :=
  run_typeAssert_lacksB Tryd.underlying102 (by kernel_rfl) (by kernel_rfl) v xT w
theorem isMethodUnwrap (p : Addr) (w : World) : (Go.method 266 74 (.pointer (some p)) "Unwrap").run Tryd.prog w = .ok (87, .pointer (some p)) w := by kernel_rfl
theorem isTypeOf (v : Value) (w : World) : (ReflectliteType.typeOf #[.iface 32 v]).run Tryd.prog w = .ok (.iface 95 (.agg #[.pointer (some ⟨4, 32, none⟩)])) w := by kernel_rfl

set_option maxHeartbeats 4000000 in
theorem is_in (n m : Int) (l0 : List ByteArray) (v0 : Value) (w : World) (hch : Chain w n l0 v0) :
    Calls Tryd.prog 31 #[v0, .iface 32 (.int .i64 m), .bool true] w fun e w' => e = .returned (.bool (n == m)) ∧ w' = w := by
  have f1 := isNoIsW
  have f2 := isNoIsE
  have f3 := isUnwrapW
  have f4 := isNoUnwrapE
  have f5 := isNoUnwrapsE
  have f6 := isMethodUnwrap
  have f7 := fun (p : Addr) (W : World) => run_eql_iface_types (P := Tryd.prog) 74 32 (.pointer (some p)) (.int .i64 m) Tryd.underlying29 (by decide) W
  have f8 := fun (W : World) => Go.Lib.run_eql_iface_int (P := Tryd.prog) (k := .i64) W n m Tryd.underlying29 isComp Tryd.underlying32
  go_enter Tryd.func31, Tryd.ntmps31
  go_wp2
  go_loopg [0] l0.length (fun k v wr => ∃ l : List ByteArray, k = l.length ∧ wr = w ∧ Chain w n l v)
  case atStart => exact ⟨l0, rfl, rfl, hch⟩
  case round =>
    obtain ⟨l, rfl, rfl, hl⟩ := hrel
    clear hch
    cases l with
    | nil =>
      have hv : _ = Value.iface 32 (.int .i64 n) := hl
      subst hv
      clear hl
      cases hb : (n == m) with
      | true =>
        rw [hb] at f8
        go_wp2
        go_ret
        exact ⟨by rw [hb]; rfl, rfl⟩
      | false =>
        rw [hb] at f8
        go_wp2
        go_ret
        exact ⟨by rw [hb]; rfl, rfl⟩
    | cons s r =>
      obtain ⟨b, x, rfl, h0, h1, h2⟩ := hl
      obtain ⟨T, u, rfl⟩ := h2.held
      have H2 := Lib.hid h2
      clear h2 h0 f8
      go_wp2_with (go_at_call 87; refine (unwrap_any b (.iface T u) _ h1).mono ?_; rintro e w' ⟨rfl, rfl⟩)
      go_roundg r.length
      case measure => simp
      case rel => exact ⟨r, rfl, rfl, H2.out⟩
set_option maxHeartbeats 4000000 in
theorem is_any (n m : Int) (l0 : List ByteArray) (v0 : Value) (w : World) (hch : Chain w n l0 v0) :
    Calls Tryd.prog 12 #[v0, .iface 32 (.int .i64 m)] w fun e w' => e = .returned (.bool (n == m)) ∧ w' = w := by
  have x1 := @run_callFunc_extern Tryd.prog 30 _ ReflectliteType.typeOf Tryd.func30 (by kernel_rfl) (by kernel_rfl) (by kernel_rfl) (by kernel_rfl)
  have x2 := @run_callFunc_extern Tryd.prog 90 _ (ReflectliteType.method fun t => do Rtype.noPackHeld "Comparable" t; pure (.bool (← typeInfo t).comparable)) Tryd.func90 (by kernel_rfl) (by kernel_rfl) (by kernel_rfl) (by kernel_rfl)
  have f1 := isTypeOf
  have f2 := isComparable
  have f3 := isMethodComparable
  have HI := Lib.hid (is_in n m l0 v0 w hch)
  obtain ⟨T, u, rfl⟩ := hch.held
  clear hch
  go_enter Tryd.func12, Tryd.ntmps12
  go_wp2_with fail
  refine HI.out.mono ?_
  rintro e w' ⟨rfl, rfl⟩
  go_wp2_with fail
  go_ret
  exact ⟨rfl, rfl⟩
end Go.Proofs.YtjnhfabgdegngaaDoor
