/-
  What is proved: the document's Add of any route; what its table and the project's do to each other's memory (nothing).
  Conditions: the route's numbers fit their types.
-/
import Derived.Test.YtimpellpfnmicaaRfDel
import Derived.Test.YtimpellpfnmicaaRtDoes
namespace Go.Proofs.Ytimpellpfnmicaa
open Go.RowKit

theorem radd_any (L : List Rt) (r : Rt) (hr : r.In) (p B : Nat) (v : Value) (w : World) (h : Rf w p B v L) (hBw : B ≤ w.heap.size) :
    Calls Try.prog 11 #[.pointer (some ⟨p, 0, none⟩), .agg #[.int .u32 r.d, .int .i64 r.b, .int .u32 r.v, .int .i64 r.o]] w fun e w' => ∃ v', e = .returned (.int .i64 (addCode L r)) ∧ Rf w' p B v' (addL L r) ∧ Mv w w' p v := by
  unfold addCode addL
  cases hok : r.ok with
  | true => exact radd_ok L r hr hok p B v w h hBw
  | false => exact (radd_bad L r hr hok p B v w h).mono fun e w' ⟨h1, h2⟩ => ⟨v, h1, h.below h2, Mv.of_below h2⟩

section
variable {w w' : World} {p q pr B : Nat} {v : Value} {L L' : List Rt}
theorem Tab.moved (h : Tab w p q L) (hR : Rf w pr B v L') (hp : p < B) (hq : q < B) (hpr : B ≤ pr) (hm : Mv w w' pr v) : Tab w' p q L := by
  have hlt := h.lt
  have no : ∀ k, k < B → k < w.heap.size → w'.heap[k]? = w.heap[k]? := fun k hk hk2 => hm.block k hk2 (by omega) (fun e => by have := (hR.own k e.symm).1; omega)
  obtain ⟨D, ⟨es, clock, hb, F, hs, hD⟩, h2⟩ := h.own
  refine ⟨?_, ⟨D, ⟨es, clock, (no q hq hlt.2).trans hb, F, hs, hD⟩, h2⟩, h.srt, h.right, h.few⟩
  rw [← h.cell]
  unfold World.cell?
  rw [no p hp hlt.1]
theorem Rf.grown (h : Rf w pr B v L) (hq : q < B) (hpr : B ≤ pr) (hg : w.grownBy w' (some q)) : Rf w' pr B v L :=
  h.at (hg.block pr h.lt (fun e => by cases e; omega)) hg.size (fun g hgv => hg.block g (h.own g hgv).2 (fun e => by have := (h.own g hgv).1; cases e; omega))
theorem below_mv {N : Nat} {w0 : World} (hb : Below N w0 w) (hN : N ≤ w.heap.size) (hR : Rf w pr B v L) (hB : N ≤ B) (hpr : B ≤ pr) (hm : Mv w w' pr v) : Below N w0 w' :=
  hb.trans ⟨hm.os, hm.tape, hm.output, hm.size, fun k hk => hm.block k (by omega) (by omega) (fun e => by have := (hR.own k e.symm).1; omega)⟩
end
def Stp.obj (s : Stp) : Obj := .cells #[.int .i64 s.k, .int .u32 s.r.d, .int .i64 s.r.b, .int .u32 s.r.v, .int .i64 s.r.o, .int .u32 s.x] 35
/-- A block laid by oneself, while the document's table moves. -/
theorem Mv.mine {w W W' : World} {pr B G : Nat} {v : Value} {L : List Rt} {o : Obj} (hR : Rf w pr B v L) (hG : w.heap.size ≤ G) (hm : Mv W W' pr v) (h : W.heap[G]? = some o) : W'.heap[G]? = some o :=
  (hm.block G (Array.getElem?_eq_some_iff.1 h).1 (by have := hR.lt; omega) (fun e => by have := (hR.own G e.symm).2; omega)).trans h
end Go.Proofs.Ytimpellpfnmicaa
