/-
  What is proved: a frame in a box of its own: its fields, and what a store into one of them leaves.
  Conditions: none of its own.
-/
import Derived.Test.YtdmogppkambgaaaDoorELift
import Derived.Deep.RegionLaw
import Derived.Deep.DeepCutAuto
import Derived.Laws.BitsAllLaws
namespace Go.Proofs.YtdmogppkambgaaaDoor
open Go.RowKit

section
variable {w W W' : World} {G : Nat} {f : Frm} {bv : Value}
theorem heap_set (W : World) (G k : Nat) (v : Value) : (W.setCell ⟨G, k, none⟩ v).heap[G]? = (W.heap[G]?).map fun
      | .cells cs t fr => .cells (cs.set! k v) t fr
      | o => o := by
  unfold World.setCell
  simp only [Array.getElem?_modify, if_true]
  cases W.heap[G]? with
  | none => rfl
  | some o => cases o <;> rfl
theorem Rd.over {v : Value} {bs : List UInt8} (h : Rd W v bs) (a : Addr) (ha : ∀ u, W.cell? a ≠ some (B8 u)) (x : Value) : Rd (W.setCell a x) v bs :=
  h.fr (Fr.of_set (p := (· = a)) W a x rfl) (fun y u hu e => by cases e; exact ha u hu)
theorem Rd.drewN {v : Value} {bs : List UInt8} (h : Rd W v bs) (k : Nat) : Rd (W.drewN k) v bs := h.keep (fun _ _ h => h)
theorem Rd.frontAt {A : Option Addr} {n c K : Nat} {bs : List UInt8} (h : Rd W (.slice A n c) bs) (hK : K ≤ bs.length) : Rd W (.slice A K c) (bs.take K) := by
  have e : n = bs.length := by obtain ⟨A', c', e, _⟩ := h; cases e; rfl
  subst e
  exact h.front hK
theorem Rd.backAt {g o n c K : Nat} {bs : List UInt8} (h : Rd W (.slice (some ⟨g, o, none⟩) n c) bs) (hK : K ≤ bs.length) : Rd W (.slice (some ⟨g, o + K, none⟩) (n - K) (c - K)) (bs.drop K) := by
  obtain ⟨A', c', hv', hc', hr⟩ := h
  cases hv'
  refine ⟨some ⟨g, o + K, none⟩, c - K, by rw [List.length_drop], by rw [List.length_drop]; omega, fun h0 => ⟨g, o + K, rfl, fun i u hu => ?_⟩⟩
  rw [List.length_drop] at h0
  obtain ⟨g', o', e, hi⟩ := hr (by omega)
  cases e
  rw [List.getElem?_drop] at hu
  rw [Nat.add_assoc]
  exact hi (K + i) u hu
end
theorem below_drewN {B : Nat} {w W : World} (h : Below B w W) (n : Nat) : Below B w (W.drewN n) := ⟨h.os, h.tape, h.output, h.size, h.block⟩
theorem i64_fits (z : Int) (h1 : -9223372036854775808 ≤ z) (h2 : z ≤ 9223372036854775807) : IntKind.i64.wrap z = z := by
  have a : IntKind.i64.bits = 64 := rfl
  have b : IntKind.i64.signed = true := rfl
  simp only [IntKind.wrap, a, b]
  simp
  split <;> omega
theorem be2_len (n : Nat) : (be2 n).length = 2 := rfl
theorem bs_front (dst src : M6) (v : Int) (ty : Nat) (b : List UInt8) : (Frm.bs ⟨dst, src, v, ty, b⟩).take 12 = dst.bs ++ src.bs := rfl
theorem bs_plain (dst src : M6) (ty : Nat) (b : List UInt8) : (Frm.bs ⟨dst, src, -1, ty, b⟩).drop 12 = be2 ty ++ b := rfl
theorem bs_tagged (dst src : M6) (t ty : Nat) (b : List UInt8) : (Frm.bs ⟨dst, src, t, ty, b⟩).drop 16 = be2 ty ++ b := by
  unfold Frm.bs Frm.tail tagBs
  rw [if_neg (by simp only; omega)]
  rfl
end Go.Proofs.YtdmogppkambgaaaDoor
