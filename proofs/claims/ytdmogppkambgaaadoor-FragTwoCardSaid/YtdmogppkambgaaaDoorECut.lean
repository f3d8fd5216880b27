/-
  What is proved: what a frame's bytes are when they are cut off.
  Conditions: none.
-/
import Derived.Test.YtdmogppkambgaaaDoorEBox
namespace Go.Proofs.YtdmogppkambgaaaDoor
open Go.RowKit

theorem Frm.val_lit (f : Frm) (bv : Value) : f.val bv = .agg #[.int .u8 f.dst.a.toNat, .int .u8 f.dst.b.toNat, .int .u8 f.dst.c.toNat, .int .u8 f.dst.d.toNat, .int .u8 f.dst.e.toNat, .int .u8 f.dst.f.toNat,
    .int .u8 f.src.a.toNat, .int .u8 f.src.b.toNat, .int .u8 f.src.c.toNat, .int .u8 f.src.d.toNat, .int .u8 f.src.e.toNat, .int .u8 f.src.f.toNat, .int .i64 f.vlan, .int .u16 f.ty, bv] := rfl
theorem take_six (m : M6) (r : List UInt8) (k : Nat) (h : 6 ≤ k) : (m.bs ++ r).take k = m.bs ++ r.take (k - 6) := by
  rw [List.take_append, List.take_of_length_le (by rw [M6.bs_len]; omega), M6.bs_len]
/-- Cut off ahead of its bytes. -/
theorem Frm.short (f : Frm) (k : Nat) (hk : k < f.head) : FShort (f.bs.take k) := by
  have hl := f.bs_len
  by_cases h6 : k < 6
  · exact .inl (by rw [List.length_take]; omega)
  · have e1 : f.bs.take k = f.dst.bs ++ (f.src.bs ++ f.tail).take (k - 6) := take_six _ _ _ (by omega)
    by_cases h12 : k < 12
    · exact .inr (.inl ⟨f.dst, _, e1, by rw [List.length_take]; omega⟩)
    · rw [take_six _ _ _ (by omega)] at e1
      refine .inr (.inr ⟨f.dst, f.src, _, e1, ?_⟩)
      unfold Frm.head at hk
      unfold Frm.tail tagBs
      by_cases hv : f.vlan = -1
      · rw [if_pos hv] at hk
        exact .inl (by rw [List.length_take]; omega)
      · rw [if_neg hv] at hk
        rw [if_neg hv]
        by_cases h14 : k < 14
        · exact .inl (by rw [List.length_take]; omega)
        · obtain ⟨j, rfl⟩ : ∃ j, k = 14 + j := ⟨k - 14, by omega⟩
          refine .inr ⟨(be2 f.vlan.toNat ++ be2 f.ty ++ f.b).take j, ?_, by rw [List.length_take]; omega⟩
          rw [show 14 + j - 6 - 6 = j + 1 + 1 by omega]
          rfl
/-- Cut off behind that it is a frame of fewer bytes. -/
theorem Frm.cut (f : Frm) (m : Nat) : f.bs.take (f.head + m) = Frm.bs ⟨f.dst, f.src, f.vlan, f.ty, f.b.take m⟩ := by
  have h1 : 14 ≤ f.head := by unfold Frm.head; split <;> omega
  have e1 : f.bs.take (f.head + m) = f.dst.bs ++ (f.src.bs ++ f.tail.take (f.head + m - 6 - 6)) := by
    show (f.dst.bs ++ (f.src.bs ++ f.tail)).take (f.head + m) = _
    rw [take_six _ _ _ (by omega), take_six _ _ _ (by omega)]
  rw [e1]
  have e2 : f.tail.take (f.head + m - 6 - 6) = Frm.tail ⟨f.dst, f.src, f.vlan, f.ty, f.b.take m⟩ := by
    unfold Frm.tail
    simp only
    have e3 : (tagBs f.vlan ++ be2 f.ty).length = f.head - 12 := by
      unfold tagBs Frm.head
      split <;> simp [be2]
    rw [List.take_append, e3, List.take_of_length_le (by rw [e3]; omega)]
    congr 2
    omega
  rw [e2]
  rfl
theorem front_of (b : List UInt8) (K : Nat) {A : Option Addr} {c : Nat} {w : World} (h : Rd w (.slice A b.length c) b) : ∃ bs, bs = b.take K ∧ bs.length = min b.length K ∧ Rd w (.slice A bs.length c) bs := by
  refine ⟨b.take K, rfl, by rw [List.length_take]; omega, ?_⟩
  by_cases h2 : b.length ≤ K
  · rw [List.take_of_length_le h2]; exact h
  · have := h.front (K := K) (by omega)
    rw [List.length_take, Nat.min_eq_left (by omega)]
    exact this
end Go.Proofs.YtdmogppkambgaaaDoor
