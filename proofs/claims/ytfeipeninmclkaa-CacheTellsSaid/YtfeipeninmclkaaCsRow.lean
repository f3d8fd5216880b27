/-
  What is proved: a row of addresses in memory while it is sorted: what its cells hold, that all other memory stays; cmp.Less at addresses by contract.
  Conditions: none.
-/
import Derived.Test.YtfeipeninmclkaaProg
import Derived.Sort.AssemblyPlain
import Derived.Sort.Row
import Derived.CellFam
import Derived.Maps.RangeWalk
import Derived.WalkKit
import Derived.BigGuard
import Derived.BigCall
import Derived.Below
import Derived.Deep.Draws
import Derived.Deep.QuietTactic
import Derived.BigQuiet
import Derived.Lib.Hide
import Derived.Deep.LoopGhost
import Derived.OwnWalk
import Derived.LoopTactic
import Derived.Deep.CutBlock
import Derived.Outline
namespace Go.Proofs.Ytfeipeninmclkaa
open Go.RowKit

abbrev u32 (x : Int) : Value := .int .u32 x
def numOf : Value → Int | .int _ q => q | _ => 0
/-- The cells of block g from o on hold the numbers d; of all that there was in w0 nothing else has turned. -/
structure Sr (w0 : World) (g o : Nat) (d : Array Int) (w : World) : Prop where
  row : Sort.Holds (Value.int .u32) w g o d
  go : w0.grownBy w (some g)
section
variable {w0 w w' : World} {g o : Nat} {d d' : Array Int}
theorem gb_refl (w : World) (r : Option Nat) : w.grownBy w r := ⟨rfl, rfl, rfl, Nat.le_refl _, fun _ _ _ => rfl⟩
theorem gb_trans {a b c : World} {r : Option Nat} (h : a.grownBy b r) (k : b.grownBy c r) : a.grownBy c r := h.andThen k (fun _ e => .inr e)
theorem gb_dN {a b : World} {r : Option Nat} (h : a.grownBy b r) (n : Nat) : a.grownBy (b.drewN n) r := ⟨h.os, h.tape, h.output, h.size, h.block⟩
theorem gb_set {a b : World} {q : Nat} (h : a.grownBy b (some q)) (i : Nat) (v : Value) : a.grownBy (b.setCell ⟨q, i, none⟩ v) (some q) :=
  gb_trans h ⟨rfl, rfl, rfl, by simp [World.setCell], fun k _ hk => Below.heap_setCell _ _ _ k (fun e => hk (by rw [e]))⟩
theorem Sr.start (h : Sort.Holds (Value.int .u32) w g o d) : Sr w g o d w := ⟨h, gb_refl _ _⟩
theorem Sr.drewN (h : Sr w0 g o d w) (n : Nat) : Sr w0 g o d (w.drewN n) := ⟨h.row, gb_dN h.go n⟩
theorem Sr.trans (h : Sr w0 g o d w) (k : Sr w g o d' w') : Sr w0 g o d' w' := ⟨k.row, gb_trans h.go k.go⟩
theorem Sr.cell (h : Sr w0 g o d w) {i : Nat} (hi : i < d.size) : w.cell? ⟨g, o + i, none⟩ = some (.int .u32 d[i]!) := (h.row i hi).1
theorem Sr.free (h : Sr w0 g o d w) {i : Nat} (hi : i < d.size) : w.frozen? ⟨g, o + i, none⟩ = false := (h.row i hi).2
theorem holds_swp (h : Sort.Holds (Value.int .u32) w g o d) {i j : Nat} (hi : i < d.size) (hj : j < d.size) :
    Sort.Holds (Value.int .u32) ((w.setCell ⟨g, o + i, none⟩ (.int .u32 d[j]!)).setCell ⟨g, o + j, none⟩ (.int .u32 d[i]!)) g o (Sort.swp d i j) := by
  have e := Sort.putRow_swp (Value.int .u32) w g o d i j hi hj
  rw [Sort.putRow_self _ _ _ _ _ h] at e
  rw [e]
  exact Sort.holds_putRow _ _ _ _ d _ h (by simp [Sort.swp])
theorem Sr.swp (h : Sr w0 g o d w) {i j : Nat} (hi : i < d.size) (hj : j < d.size) (q : Nat) :
    Sr w0 g o (Sort.swp d i j) (((w.drewN q).setCell ⟨g, o + i, none⟩ (.int .u32 d[j]!)).setCell ⟨g, o + j, none⟩ (.int .u32 d[i]!)) :=
  ⟨holds_swp (w := w.drewN q) h.row hi hj, gb_set (gb_set (gb_dN h.go q) _ _) _ _⟩
theorem swp_size (d : Array Int) (i j : Nat) : (Sort.swp d i j).size = d.size := by simp [Sort.swp]
end

theorem isNaN_any (x : Int) (w : World) : Calls Try.prog 61 #[.int .u32 x] w fun e w' => e = .returned (.bool false) ∧ w' = w := by
  go_enter Try.func61, Try.ntmps61
  go_wp2
  go_ret
  exact ⟨by simp, rfl⟩
theorem less_any (x y : Int) (w : World) : Calls Try.prog 51 #[.int .u32 x, .int .u32 y] w fun e w' => e = .returned (.bool (Sort.ltInt x y)) ∧ w' = w := by
  go_enter Try.func51, Try.ntmps51
  go_wp2_with (go_at_call 61; refine (isNaN_any _ _).mono ?_; rintro e w' ⟨rfl, rfl⟩)
  go_ret
  exact ⟨rfl, rfl⟩
end Go.Proofs.Ytfeipeninmclkaa
