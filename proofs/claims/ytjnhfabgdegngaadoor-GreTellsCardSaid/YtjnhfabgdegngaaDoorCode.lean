/-
  What is proved: errors.as, errors.As and api.Code at a chain of wrapped errors; api.Code of nil; api.Wrap.
  Conditions: errors.errorType holds the handle of the type error.
-/
import Derived.Test.YtjnhfabgdegngaaDoorAs
namespace Go.Proofs.YtjnhfabgdegngaaDoor
open Go.RowKit Go.Extern.Stop Go.Stop Go.Extern

set_option maxHeartbeats 4000000 in
theorem as_in (t c : Addr) (old : Value) (n : Int) (l0 : List ByteArray) (v0 : Value) (w : World) (hch : Chain w n l0 v0) (hc : w.cell? c = some (.pointer (some t))) (ht : w.cell? t = some old) (hf : w.frozen? t = false) :
    Calls Tryd.prog 51 #[v0, .iface 92 (.pointer (some t)), .agg #[.pointer (some ⟨4, 92, none⟩), .pointer (some c), .int .u64 150], .iface 95 (.agg #[.pointer (some ⟨4, 32, none⟩)])] w
      fun e w' => e = .returned (.bool true) ∧ w' = ((w.alloc (.cells #[.pointer (some ⟨4, 92, none⟩), .pointer (some c), .int .u64 150] 111)).alloc (.cells #[.int .i64 n] 32)).setCell t (.int .i64 n) := by
  have x39 := @run_callFunc_extern Tryd.prog 30 _ ReflectliteType.typeOf Tryd.func30 (by kernel_rfl) (by kernel_rfl) (by kernel_rfl) (by kernel_rfl)
  have x80 := @run_callFunc_extern Tryd.prog 89 _ (ReflectliteType.relation "AssignableTo" ReflectliteType.assignableTo) Tryd.func89 (by kernel_rfl) (by kernel_rfl) (by kernel_rfl) (by kernel_rfl)
  have x40 := @run_callFunc_extern Tryd.prog 54 _ (ReflectliteValue.method (ReflectliteValue.valueError "reflectlite.Value.Elem" 0) ReflectliteValue.elem) Tryd.func54 (by kernel_rfl) (by kernel_rfl) (by kernel_rfl) (by kernel_rfl)
  have x35 := @run_callFunc_extern Tryd.prog 48 _ (fun args => ReflectliteValue.unpack (args.getD 0 (.tuple #[]))) Tryd.func48 (by kernel_rfl) (by kernel_rfl) (by kernel_rfl) (by kernel_rfl)
  have x41 := @run_callFunc_extern Tryd.prog 55 _ ReflectliteValue.set Tryd.func55 (by kernel_rfl) (by kernel_rfl) (by kernel_rfl) (by kernel_rfl)
  have f1 := asTypeOfW
  have f2 := asTypeOfE
  have f3 := asMethodAssignableTo
  have f4 := asAssignW
  have f5 := asAssignE
  have f6 := asNoAs
  have f7 := asUnwraps
  have f8 := asMethodUnwrap
  have f9 := asValueOfE
  have htl : t.block < w.heap.size := World.block_lt_of_cell? w t ht
  have hcl : c.block < w.heap.size := World.block_lt_of_cell? w c hc
  have hel := asElemV c t (w.alloc (.cells #[.pointer (some ⟨4, 92, none⟩), .pointer (some c), .int .u64 150] 111)) (by rw [World.cell?_alloc_lt _ _ c hcl]; exact hc)
  have hst := asSet t ⟨w.heap.size + 1, 0, none⟩ n old ((w.alloc (.cells #[.pointer (some ⟨4, 92, none⟩), .pointer (some c), .int .u64 150] 111)).alloc (.cells #[.int .i64 n] 32))
    (by rw [World.cell?_alloc_at _ _ _ _ (by simp)]; rfl)
    (by rw [World.cell?_alloc_lt _ _ t (by simp; omega), World.cell?_alloc_lt _ _ t htl]; exact ht)
    (by rw [World.frozen?_alloc_old _ _ t (by simp; omega), World.frozen?_alloc_old _ _ t (Nat.ne_of_lt htl)]; exact hf)
  have hch1 := hch.below (((Below.refl w.heap.size w).alloc (Nat.le_refl _) (.cells #[.pointer (some ⟨4, 92, none⟩), .pointer (some c), .int .u64 150] 111)))
  have HC := Lib.hid hch1
  clear hch hch1 hc ht hf htl hcl
  go_enter Tryd.func51, Tryd.ntmps51
  go_wp2
  go_loopg [0] l0.length (fun k v wr => ∃ l : List ByteArray, k = l.length ∧ wr = w.alloc (.cells #[.pointer (some ⟨4, 92, none⟩), .pointer (some c), .int .u64 150] 111) ∧ Chain (w.alloc (.cells #[.pointer (some ⟨4, 92, none⟩), .pointer (some c), .int .u64 150] 111)) n l v)
  case atStart => exact ⟨l0, rfl, rfl, HC.out⟩
  case round =>
    obtain ⟨l, rfl, rfl, hl⟩ := hrel
    clear HC
    cases l with
    | nil =>
      have hv : _ = Value.iface 32 (.int .i64 n) := hl
      subst hv
      clear hl
      go_wp2
      go_ret
      exact ⟨rfl, rfl⟩
    | cons s r =>
      obtain ⟨b, x, rfl, h0, h1, h2⟩ := hl
      obtain ⟨T, u, rfl⟩ := h2.held
      have H2 := Lib.hid h2
      clear h2 hel hst h0
      go_wp2_with (go_at_call 87; refine (unwrap_any b (.iface T u) _ h1).mono ?_; rintro e w' ⟨rfl, rfl⟩)
      go_roundg r.length
      case measure => simp
      case rel => exact ⟨r, rfl, rfl, H2.out⟩

theorem as_end {w W : World} (hb : Below w.heap.size w W) (o1 o2 : Obj) {t : Addr} {old : Value} (ht : w.cell? t = some old) (x : Value) :
    (((W.alloc o1).alloc o2).setCell t x).cell? t = some x ∧ w.grownBy (((W.alloc o1).alloc o2).setCell t x) (some t.block) := by
  have htl : t.block < w.heap.size := World.block_lt_of_cell? w t ht
  have h2 : Below w.heap.size w ((W.alloc o1).alloc o2) := (hb.alloc hb.size _).alloc (by have := hb.size; rw [World.size_alloc]; omega) _
  refine ⟨World.cell?_setCell_same _ _ _ ((h2.cell htl).trans ht), ⟨h2.os, h2.tape, h2.output, by rw [World.size_setCell]; exact h2.size, fun k hk hne => ?_⟩⟩
  rw [Below.heap_setCell _ _ _ _ (fun e => hne (by rw [e]))]
  exact h2.block k hk

set_option maxHeartbeats 4000000 in
theorem as_out (t : Addr) (old : Value) (n : Int) (l0 : List ByteArray) (v0 : Value) (w : World) (hg : w.cell? ⟨0, 0, none⟩ = some (.iface 95 (.agg #[.pointer (some ⟨4, 29, none⟩)])))
    (hch : Chain w n l0 v0) (ht : w.cell? t = some old) (hf : w.frozen? t = false) :
    Calls Tryd.prog 43 #[v0, .iface 92 (.pointer (some t))] w fun e w' => e = .returned (.bool true) ∧ w'.cell? t = some (.int .i64 n) ∧ w.grownBy w' (some t.block) := by
  have x35 := @run_callFunc_extern Tryd.prog 48 _ (fun args => ReflectliteValue.unpack (args.getD 0 (.tuple #[]))) Tryd.func48 (by kernel_rfl) (by kernel_rfl) (by kernel_rfl) (by kernel_rfl)
  have x36 := @run_callFunc_extern Tryd.prog 49 _ (ReflectliteValue.methodAny (ReflectliteValue.valueError "reflectlite.Value.Type" 0) (fun t _ _ _ => ReflectliteType.toType t)) Tryd.func49 (by kernel_rfl) (by kernel_rfl) (by kernel_rfl) (by kernel_rfl)
  have x37 := @run_callFunc_extern Tryd.prog 50 _ (ReflectliteValue.method (ReflectliteValue.valueError "reflectlite.Value.IsNil" 0) ReflectliteValue.isNil) Tryd.func50 (by kernel_rfl) (by kernel_rfl) (by kernel_rfl) (by kernel_rfl)
  have x56 := @run_callFunc_extern Tryd.prog 82 _ (ReflectliteType.abiMethod fun t => do pure (.int .u8 (← Rtype.kind t))) Tryd.func82 (by kernel_rfl) (by kernel_rfl) (by kernel_rfl) (by kernel_rfl)
  have x82 := @run_callFunc_extern Tryd.prog 91 _ (ReflectliteType.method ReflectliteType.elem) Tryd.func91 (by kernel_rfl) (by kernel_rfl) (by kernel_rfl) (by kernel_rfl)
  have x83 := @run_callFunc_extern Tryd.prog 92 _ (ReflectliteType.relation "Implements" ReflectliteType.implements_) Tryd.func92 (by kernel_rfl) (by kernel_rfl) (by kernel_rfl) (by kernel_rfl)
  have f1 := asValueOf
  have f2 := asType
  have f3 := asMethodKind
  have f4 := asMethodElem
  have f5 := asMethodImplements
  have f6 := asKindP
  have f7 := asKindE
  have f8 := asElem
  have f9 := asImplements
  have htl : t.block < w.heap.size := World.block_lt_of_cell? w t ht
  have hgl : 0 < w.heap.size := World.block_lt_of_cell? w _ hg
  obtain ⟨T, u, rfl⟩ := hch.held
  have n8 := asIsNil ⟨w.heap.size, 0, none⟩ t ((w.alloc (.cells #[.pointer (some t)] 92)).alloc (.cells #[.pointer (some ⟨4, 92, none⟩), .pointer (some ⟨w.heap.size, 0, none⟩), .int .u64 150] 111)) (by simp)
  have hg2 : ((w.alloc (.cells #[.pointer (some t)] 92)).alloc (.cells #[.pointer (some ⟨4, 92, none⟩), .pointer (some ⟨w.heap.size, 0, none⟩), .int .u64 150] 111)).cell? ⟨0, 0, none⟩ = some (.iface 95 (.agg #[.pointer (some ⟨4, 29, none⟩)])) := by
    rw [World.cell?_alloc_lt _ _ ⟨0, 0, none⟩ (by rw [World.size_alloc]; exact Nat.lt_succ_of_lt hgl), World.cell?_alloc_lt _ _ ⟨0, 0, none⟩ hgl]; exact hg
  have hb2 : Below w.heap.size w ((w.alloc (.cells #[.pointer (some t)] 92)).alloc (.cells #[.pointer (some ⟨4, 92, none⟩), .pointer (some ⟨w.heap.size, 0, none⟩), .int .u64 150] 111)) := ((Below.refl _ _).alloc (Nat.le_refl _) _).alloc (by simp) _
  have hin := as_in t ⟨w.heap.size, 0, none⟩ old n l0 (.iface T u) _ (hch.below hb2) (by simp) ((hb2.cell htl).trans ht) ((hb2.frozen htl).trans hf)
  have HI := Lib.hid hin
  have HE := Lib.hid (as_end hb2 (.cells #[.pointer (some ⟨4, 92, none⟩), .pointer (some ⟨w.heap.size, 0, none⟩), .int .u64 150] 111) (.cells #[.int .i64 n] 32) ht (.int .i64 n))
  clear hin hb2 hch hg ht hf
  go_enter Tryd.func43, Tryd.ntmps43
  go_wp2_with fail
  refine (HI.out).mono ?_
  rintro e w' ⟨rfl, rfl⟩
  go_wp2_with fail
  go_ret
  exact ⟨rfl, HE.out.1, HE.out.2⟩

/-- api.Code of an error that wraps the number 'n'. -/
theorem code_any (n : Int) (l0 : List ByteArray) (v0 : Value) (w : World) (hg : w.cell? ⟨0, 0, none⟩ = some (.iface 95 (.agg #[.pointer (some ⟨4, 29, none⟩)])))
    (hch : Chain w n l0 v0) :
    Calls Tryd.prog 28 #[v0] w fun e w' => e = .returned (.int .i64 n) ∧ Below w.heap.size w w' := by
  obtain ⟨T, u, rfl⟩ := hch.held
  have hb1 : Below w.heap.size w (w.alloc (.cells #[.int .i64 0] 32)) := (Below.refl _ _).alloc (Nat.le_refl _) _
  have hout := as_out ⟨w.heap.size, 0, none⟩ (.int .i64 0) n l0 (.iface T u) (w.alloc (.cells #[.int .i64 0] 32)) ((hb1.cell (World.block_lt_of_cell? w _ hg)).trans hg) (hch.below hb1) (by simp) (by simp)
  have HO := Lib.hid hout
  have HB := Lib.hid hb1
  clear hout hb1 hch hg
  go_enter Tryd.func28, Tryd.ntmps28
  go_wp2_with fail
  refine (HO.out).mono ?_
  rintro e w' ⟨rfl, hc, hgr⟩
  have HG := Lib.hid hgr
  clear hgr
  go_wp2_with fail
  go_ret
  exact ⟨rfl, HB.out.grown HG.out (HB.out.size) (fun k hk => by cases hk; exact Nat.le_refl _)⟩

theorem code_nil (w : World) : Calls Tryd.prog 28 #[.nilIface] w fun e w' => e = .returned (.int .i64 0) ∧ w = w' := by
  go_enter Tryd.func28, Tryd.ntmps28
  go_wp2_with fail
  go_ret
  exact ⟨rfl, rfl⟩

/-- api.Wrap of an error: one layer more. -/
theorem wrap_any (s : ByteArray) (T : TypeId) (u : Value) (w : World) :
    Calls Tryd.prog 15 #[.string s, .iface T u] w fun e w' => e = .returned (.iface 74 (.pointer (some ⟨w.heap.size, 0, none⟩))) ∧ w.alloc (.cells #[.string s, .iface T u] 76) = w' := by
  go_enter Tryd.func15, Tryd.ntmps15
  go_wp2_with fail
  go_ret
  exact ⟨rfl, rfl⟩
theorem wrap_nil (s : ByteArray) (w : World) : Calls Tryd.prog 15 #[.string s, .nilIface] w fun e w' => e = .returned .nilIface ∧ w = w' := by
  go_enter Tryd.func15, Tryd.ntmps15
  go_wp2_with fail
  go_ret
  exact ⟨rfl, rfl⟩
/-- What api.Wrap made, read as a chain. -/
theorem chain_wrapped {w : World} {n : Int} {l : List ByteArray} {v : Value} (s : ByteArray) (h : Chain w n l v) :
    Chain (w.alloc (.cells #[.string s, v] 76)) n (s :: l) (.iface 74 (.pointer (some ⟨w.heap.size, 0, none⟩))) :=
  ⟨w.heap.size, v, rfl, by simp, by simp, h.below ((Below.refl _ _).alloc (Nat.le_refl _) _)⟩
theorem chain_errno (w : World) (n : Int) : Chain w n [] (.iface 32 (.int .i64 n)) := rfl
end Go.Proofs.YtjnhfabgdegngaaDoor
