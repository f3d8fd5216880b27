/-
  What is proved: errors.as, errors.As and api.Code at a chain of wrapped errors; api.Code of nil; api.Wrap.
  Conditions: errors.errorType holds the handle of the type error.
-/
import Derived.Test.YtjnhfabgdegngaaAs
namespace Go.Proofs.Ytjnhfabgdegngaa
open Go.RowKit Go.Extern.Stop Go.Stop Go.Extern

theorem as_end {w W : World} (hb : Below w.heap.size w W) (o1 o2 : Obj) {t : Addr} {old : Value} (ht : w.cell? t = some old) (x : Value) :
    (((W.alloc o1).alloc o2).setCell t x).cell? t = some x ∧ w.grownBy (((W.alloc o1).alloc o2).setCell t x) (some t.block) := by
  have htl : t.block < w.heap.size := World.block_lt_of_cell? w t ht
  have h2 : Below w.heap.size w ((W.alloc o1).alloc o2) := (hb.alloc hb.size _).alloc (by have := hb.size; rw [World.size_alloc]; omega) _
  refine ⟨World.cell?_setCell_same _ _ _ ((h2.cell htl).trans ht), ⟨h2.os, h2.tape, h2.output, by rw [World.size_setCell]; exact h2.size, fun k hk hne => ?_⟩⟩
  rw [Below.heap_setCell _ _ _ _ (fun e => hne (by rw [e]))]
  exact h2.block k hk

/-- api.Wrap of an error: one layer more. -/
theorem wrap_any (s : ByteArray) (T : TypeId) (u : Value) (w : World) :
    Calls Try.prog 17 #[.string s, .iface T u] w fun e w' => e = .returned (.iface 71 (.pointer (some ⟨w.heap.size, 0, none⟩))) ∧ w.alloc (.cells #[.string s, .iface T u] 73) = w' := by
  go_enter Try.func17, Try.ntmps17
  go_wp2_with fail
  go_ret
  exact ⟨rfl, rfl⟩
theorem wrap_nil (s : ByteArray) (w : World) : Calls Try.prog 17 #[.string s, .nilIface] w fun e w' => e = .returned .nilIface ∧ w = w' := by
  go_enter Try.func17, Try.ntmps17
  go_wp2_with fail
  go_ret
  exact ⟨rfl, rfl⟩
/-- What api.Wrap made, read as a chain. -/
theorem chain_wrapped {w : World} {n : Int} {l : List ByteArray} {v : Value} (s : ByteArray) (h : Chain w n l v) :
    Chain (w.alloc (.cells #[.string s, v] 73)) n (s :: l) (.iface 71 (.pointer (some ⟨w.heap.size, 0, none⟩))) :=
  ⟨w.heap.size, v, rfl, by simp, by simp, h.below ((Below.refl _ _).alloc (Nat.le_refl _) _)⟩
theorem chain_errno (w : World) (n : Int) : Chain w n [] (.iface 36 (.int .i64 n)) := rfl
end Go.Proofs.Ytjnhfabgdegngaa
