/-
  What is proved: bytes.Clone by contract (the library's, laid at this program): a row of one's own with the same bytes.
  Conditions: at most 2^47 bytes.
-/
import Derived.Shelf.Bytes.SlClone
import Derived.Test.YtfeipeninmclkaaCaLearn
namespace Go.Proofs.Ytfeipeninmclkaa
open Go.RowKit Go.Shelf

def clone_ren : Go.Shelf.Ren := ⟨fun | 4 => 25 | n => n, fun | 4 => 4 | 22 => 35 | 5 => 5 | n => n, fun n => n⟩
theorem clone_lay : SlLaysK.n4 Try.prog clone_ren := {
  mixed := by kernel_rfl,
  f4 := Try.func25.trans (congrArg some (by kernel_rfl)),
  t4 := Try.underlying4, a4 := Try.isAgg4, z4 := Try.sizeOf4, v4 := Try.zeroValue4,
  t22 := Try.underlying35, a22 := Try.isAgg35, z22 := Try.sizeOf35, v22 := Try.zeroValue35,
  t5 := Try.underlying5, i5 := by kernel_rfl }
def CloneAt (x : List UInt8) (w : World) (e : Ending) (w' : World) : Prop :=
  ∃ v, e = .returned v ∧ w'.ownsRow w.heap.size 5 1 v x.length (x.map B8) ∧ Below w.heap.size w w'
theorem clone_any (u : Value) (x : List UInt8) (w : World) (h : Rd w u x) (hbig : x.length ≤ 140737488355328) : Calls Try.prog 25 #[u] w (CloneAt x w) := by
  obtain ⟨A, c, rfl, hc, hcell⟩ := h
  cases A with
  | none =>
    have hx : x = [] := by
      rcases Nat.eq_zero_or_pos x.length with h0 | h0
      · exact List.eq_nil_of_length_eq_zero h0
      · obtain ⟨g, o, e, _⟩ := hcell h0
        cases e
    subst hx
    refine (Any.bytes_Clone_nil clone_lay _ _ w).mono ?_
    rintro e w' ⟨rfl, rfl⟩
    exact ⟨_, rfl, World.ownsRow_nil _ _ _ _, Below.refl _ _⟩
  | some a =>
    have e2 : (x.map fun b => (b.toNat : Int)).map (Value.int .u8) = x.map B8 := by
      rw [List.map_map]
      rfl
    refine (Any.bytes_Clone_at clone_lay a x.length c (x.map fun b => (b.toNat : Int)) w (by simp) hbig (fun i hi => ?_)).mono ?_
    · obtain ⟨g, o, e, hr⟩ := hcell (by omega)
      cases e
      rw [Addr.add_lit]
      have := hr i x[i] (List.getElem?_eq_getElem hi)
      rw [this]
      simp [B8, List.getD, hi]
    · rintro e w' ⟨v, rfl, h1, _, h2⟩
      rw [e2] at h1
      exact ⟨v, rfl, h1, h2⟩
end Go.Proofs.Ytfeipeninmclkaa
