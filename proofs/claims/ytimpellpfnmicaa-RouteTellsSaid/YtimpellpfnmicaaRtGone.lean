/-
  What is proved: what is found of an address behind the loss of one route.
  Conditions: none.
-/
import Derived.Test.YtimpellpfnmicaaLawRtLongest
namespace Go.Proofs.Ytimpellpfnmicaa
open Go.RowKit

theorem del_rights {L : List Rt} (hr : ∀ r ∈ L, r.Right) (d b : Int) : ∀ r ∈ delL L d b, r.Right := fun r h => hr r ((mem_del d b r).1 h).1
theorem fnd_gone_other {L : List Rt} (hs : Srt L) (hr : ∀ r ∈ L, r.Right) {x : Int} {r s : Rt} (hf : fnd L x 33 = some r) (hsm : s ∈ L) (hne : r ≠ s) : fnd (delL L s.d s.b) x 33 = some r := by
  obtain ⟨h1, h2, h3, h4, h5⟩ := fnd_some hf
  refine fnd_eq (srt_del hs _ _) (del_rights hr _ _) ((mem_del _ _ r).2 ⟨h1, fun h => hne (srt_one hs h1 hsm h ⟨rfl, rfl⟩)⟩) h4 (fun t ht hc => ?_)
  obtain ⟨ht1, _⟩ := (mem_del _ _ t).1 ht
  exact h5 t ht1 hc (by have := (hr t ht1).b1; omega)
theorem fnd_gone_none {L : List Rt} (hr : ∀ r ∈ L, r.Right) {x : Int} {s : Rt} (hf : fnd L x 33 = none) : fnd (delL L s.d s.b) x 33 = none :=
  fnd_no (fun t ht e => by
    obtain ⟨ht1, _⟩ := (mem_del _ _ t).1 ht
    exact fnd_none hf t ht1 e (hr t ht1).b0 (by have := (hr t ht1).b1; omega))
theorem fnd_gone_ne {L : List Rt} {x : Int} {r s : Rt} (hf : fnd (delL L s.d s.b) x 33 = some r) : r ≠ s := by
  obtain ⟨h1, _⟩ := fnd_some hf
  obtain ⟨_, h2⟩ := (mem_del _ _ r).1 h1
  exact fun e => h2 (by rw [e]; exact ⟨rfl, rfl⟩)
theorem del_code_in {L : List Rt} (hs : Srt L) {s : Rt} (h : s ∈ L) : delCode L s.d s.b = 0 := by
  unfold delCode
  rw [look_mem hs h ⟨rfl, rfl⟩]
  rfl
theorem del_code_out {L : List Rt} (s : Rt) : delCode (delL L s.d s.b) s.d s.b = 6 := by
  unfold delCode
  rw [look_del_same]
  rfl
theorem del_twice {L : List Rt} (d b : Int) : delL (delL L d b) d b = delL L d b := del_none (by rw [look_del_same]; rfl)
theorem del_length {L : List Rt} (hs : Srt L) {s : Rt} (h : s ∈ L) : (delL L s.d s.b).length + 1 = L.length := by
  have := length_del hs s.d s.b
  rw [look_mem hs h ⟨rfl, rfl⟩] at this
  exact this
theorem and_65535 (x : Int) : bits .and .i64 x 65535 = x % 65536 := by
  have h2 : (BitVec.ofInt 64 (65535 : Int)).toNat = 2 ^ 16 - 1 := rfl
  show IntKind.i64.wrap ((BitVec.ofInt 64 x &&& BitVec.ofInt 64 (65535 : Int)).toNat : Int) = _
  rw [BitVec.toNat_and, h2, Nat.and_two_pow_sub_one_eq_mod, BitVec.toNat_ofInt, IntKind.wrap_i64]
  omega
end Go.Proofs.Ytimpellpfnmicaa
