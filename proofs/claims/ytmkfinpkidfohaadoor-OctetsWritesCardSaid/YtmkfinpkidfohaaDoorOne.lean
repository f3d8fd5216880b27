/-
  What is proved: a writer and what it has written, all older memory as it was; append as a step of a region.
  Conditions: none of its own.
-/
import Derived.Test.YtmkfinpkidfohaaDoorShown
import Derived.Test.YtmkfinpkidfohaaDoorRef
import Derived.Test.YtmkfinpkidfohaaDoorOwn
import Derived.Test.YtmkfinpkidfohaaDoorPutsArg
import Derived.Deep.DeepCutAuto
import Derived.Deep.CutBlock
import Derived.Deep.RegionLaw
import Derived.BigRegion
import Derived.Lib.Builder
import Derived.Lib.SliceRun
namespace Go.Proofs.YtmkfinpkidfohaaDoor
open Go.RowKit

theorem step_append_eq {P : Program} {ops : Array Oper} {o : Oper} {a : Act} {w : World} {K : Act → World → Prop} {Q : Exit → Act → World → Prop} {E : Prop} (hgd : o.guard = none) (s x : Operand) (t : TypeId)
    (ho : o.op = .call { callee := .builtin .append, args := #[s, x], argTypes := #[t, t] }) (v1 v2 : Value) (hs : a.eval s = v1) (hx : a.eval x = v2) (v' : Value) (w' : World)
    (hrun : (Builtin.append_ #[t, t] o.type #[v1, v2]).run P w = .ok v' w') (h : K (a.put o.dst v') w') :
    if Region.wanted o (yielded ops a.tmps) = true then Oper.wp P o a w K Q else E := by
  have hw : Region.wanted o (yielded ops a.tmps) = true := by simp [Region.wanted, hgd]
  rw [if_pos hw]
  unfold Oper.wp execOp
  simp only [ho, resolve, invoke, builtin, Sem.run_bind, Sem.run_pure, Result.andThen_ok, List.map_toArray, List.map_cons, List.map_nil, hs, hx, hrun]
  exact h

/-- The same, its slot written out. -/
theorem step_append_to {P : Program} {ops : Array Oper} {o : Oper} {a : Act} {w : World} {K : Act → World → Prop} {Q : Exit → Act → World → Prop} {E : Prop} (hgd : o.guard = none) (s x : Operand) (t : TypeId)
    (ho : o.op = .call { callee := .builtin .append, args := #[s, x], argTypes := #[t, t] }) (v1 v2 : Value) (hs : a.eval s = v1) (hx : a.eval x = v2) (v' : Value) (w' : World)
    (hrun : (Builtin.append_ #[t, t] o.type #[v1, v2]).run P w = .ok v' w') (d : Nat) (hd : o.dst = some d) (h : K (a.put (some d) v') w') :
    if Region.wanted o (yielded ops a.tmps) = true then Oper.wp P o a w K Q else E :=
  step_append_eq hgd s x t ho v1 v2 hs hx v' w' hrun (by rw [hd]; exact h)

/-- The writer, and what it has written; its row is none of the older blocks. -/
structure One (w : World) (q : Nat) (bs : List UInt8) (row : Option Nat) (wr : World) : Prop where
  a : Wtr wr ⟨q, 0, none⟩ row bs
  lo : ∀ k, row = some k → w.heap.size ≤ k
  old : Below w.heap.size w wr
  q : w.heap.size ≤ q
theorem One.below {w : World} {q : Nat} {bs : List UInt8} {row : Option Nat} {a b : World} (h : One w q bs row a) (hb : Below a.heap.size a b) : One w q bs row b :=
  ⟨h.a.below hb, h.lo, below_to h.old hb h.old.size, h.q⟩
theorem One.put {w : World} {q : Nat} {bs cs : List UInt8} {row : Option Nat} {a b : World} (h : One w q bs row a) (hw : Wrote ⟨q, 0, none⟩ row cs a b) : ∃ row', One w q cs row' b ∧ Later a row row' := by
  obtain ⟨row', k1, k2, k3⟩ := hw
  refine ⟨row', ⟨k1, fun k e => ?_, ?_, h.q⟩, k2⟩
  · rcases k2 with e2 | ⟨j, e2, hj⟩
    · exact h.lo k (by rw [← e2]; exact e)
    · rw [e2] at e; injection e with e; have := h.old.size; omega
  · exact below_to h.old (k3.below (B := w.heap.size) h.old.size (fun x hx => by
      rcases hx with hx | hx
      · subst hx; exact h.q
      · exact h.lo x.block hx.symm)) (Nat.le_refl _)
/-- Another row is written over. -/
theorem One.over {w : World} {q g : Nat} {bs : List UInt8} {row : Option Nat} {a b : World} (h : One w q bs row a) (hf : Fr (fun x => x.block = g) a b) (hq : q ≠ g) (hr : row ≠ some g) (hg : w.heap.size ≤ g) : One w q bs row b :=
  ⟨h.a.fr hf (fun e => hq e) (fun x k hk e he => by have e1 : x.block = g := e; exact hr (by rw [hk, ← he, e1])), h.lo, below_to h.old (hf.below (B := w.heap.size) h.old.size (fun x hx => by have e1 : x.block = g := hx; omega)) (Nat.le_refl _), h.q⟩
end Go.Proofs.YtmkfinpkidfohaaDoor
