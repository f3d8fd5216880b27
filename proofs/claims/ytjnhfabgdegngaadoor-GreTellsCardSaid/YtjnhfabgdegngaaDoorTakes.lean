/-
  What is proved: the reader of octets (A1) by contract: Bytes, Rest.
  Conditions: the reader holds fewer than 2^40 bytes.
-/
import Derived.Test.YtjnhfabgdegngaaDoorNums
namespace Go.Proofs.YtjnhfabgdegngaaDoor
open Go.RowKit

/-- What is left, and what was taken, behind a taking of 'n' bytes. -/
structure Took (p : Addr) (bs : List UInt8) (n : Nat) (w w' : World) : Prop where
  rdr : Rdr w' p (bs.drop n)
  part : w'.heap[w.heap.size]? = some (bytesObj (bs.take n))
  fr : Fr (· = p) w w'
  size : w'.heap.size = w.heap.size + 1
theorem Rest_any (p : Addr) (bs : List UInt8) (w : World) (h : Rdr w p bs) (hL : bs.length ≤ 1099511627776) :
    Calls Tryd.prog 26 #[.pointer (some p)] w fun e w' => e = .returned (.slice (some ⟨w.heap.size, 0, none⟩) bs.length bs.length) ∧ Took p bs bs.length w w' := by
  obtain ⟨A, hc, hz, hr⟩ := h
  have hrd : Rd w (.slice A bs.length bs.length) bs := ⟨A, bs.length, rfl, Nat.le_refl _, hr⟩
  have HO := Lib.hid (own_any _ bs w hrd hL)
  have hpl := World.block_lt_of_cell? w p hc
  have hb : Below w.heap.size w (w.alloc (bytesObj bs)) := (Below.refl _ _).alloc (Nat.le_refl _) _
  have hc1 : (w.alloc (bytesObj bs)).cell? p = some (.slice A bs.length bs.length) := (hb.cell hpl).trans hc
  have hz1 : (w.alloc (bytesObj bs)).frozen? p = false := (hb.frozen hpl).trans hz
  have HK : Hid (Took p bs bs.length w ((w.alloc (bytesObj bs)).setCell p (.slice none 0 0))) := by
    refine ⟨⟨none, ?_, ?_, fun h0 => ?_⟩, ?_, ((Fr.refl _ _).alloc _).set p _ rfl, by simp⟩
    · rw [World.cell?_setCell_same _ _ _ hc1]; simp
    · rw [frozen_setCell]; exact hz1
    · simp at h0
    · rw [Below.heap_setCell _ _ _ _ (by omega), bytesObj_new, List.take_length]
  clear hz hr hrd hb hpl hL
  generalize w.alloc (bytesObj bs) = W at *
  go_enter Tryd.func26, Tryd.ntmps26
  go_wp2_with fail
  refine HO.out.mono ?_
  rintro e w' ⟨rfl, rfl⟩
  go_wp2_with fail
  go_ret
  exact ⟨rfl, HK.out⟩
end Go.Proofs.YtjnhfabgdegngaaDoor
