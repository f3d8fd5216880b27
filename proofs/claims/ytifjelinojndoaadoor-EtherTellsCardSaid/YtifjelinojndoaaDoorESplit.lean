/-
  What is proved: each row of bytes ends too early for a frame, or is the bytes of one; what stands where a tag would be; two frames of the document that are the same compare as such.
  Conditions: none.
-/
import Derived.Test.YtifjelinojndoaaDoorEOf
import Derived.Test.YtifjelinojndoaaDoorECut
namespace Go.Proofs.YtifjelinojndoaaDoor
open Go.RowKit

theorem six_of (l : List UInt8) (h : 6 ≤ l.length) : ∃ (m : M6) (r : List UInt8), l = m.bs ++ r := by
  match l, h with
  | a :: b :: c :: d :: e :: f :: r, _ => exact ⟨⟨a, b, c, d, e, f⟩, r, rfl⟩
theorem be2_of (a b : UInt8) : be2 (a.toNat * 256 + b.toNat) = [a, b] := by
  have ha := a.toNat_lt
  have hb := b.toNat_lt
  unfold be2
  rw [List.cons.injEq, List.cons.injEq]
  exact ⟨UInt8.toNat_inj.1 (by rw [ofNat_lt]; omega), UInt8.toNat_inj.1 (by rw [ofNat_lt]; omega), rfl⟩
/-- Each row of bytes ends too early, or is a frame's. -/
theorem frm_split (l : List UInt8) : FShort l ∨ ∃ f : Frm, f.Ok ∧ l = f.bs := by
  by_cases h6 : 6 ≤ l.length
  · obtain ⟨d, r, rfl⟩ := six_of l h6
    by_cases h12 : 6 ≤ r.length
    · obtain ⟨s, t, rfl⟩ := six_of r h12
      match t with
      | [] => exact .inl (.inr (.inr ⟨d, s, _, rfl, .inl (by simp)⟩))
      | [_] => exact .inl (.inr (.inr ⟨d, s, _, rfl, .inl (by simp)⟩))
      | a :: b :: q =>
        have ha := a.toNat_lt
        have hb := b.toNat_lt
        by_cases ht : a = 0x81 ∧ b = 0
        · obtain ⟨rfl, rfl⟩ := ht
          by_cases hq : q.length < 4
          · exact .inl (.inr (.inr ⟨d, s, _, rfl, .inr ⟨q, rfl, hq⟩⟩))
          · match q, hq with
            | [], h => exact absurd (by simp) h
            | [_], h => exact absurd (by simp) h
            | [_, _], h => exact absurd (by simp) h
            | [_, _, _], h => exact absurd (by simp) h
            | v0 :: v1 :: y0 :: y1 :: b, _ =>
              have h0 := v0.toNat_lt
              have h1 := v1.toNat_lt
              have h2 := y0.toNat_lt
              have h3 := y1.toNat_lt
              refine .inr ⟨⟨d, s, ((v0.toNat * 256 + v1.toNat : Nat) : Int), y0.toNat * 256 + y1.toNat, b⟩, ⟨by simp only; omega, .inr ⟨by simp only; omega, by simp only; omega⟩⟩, ?_⟩
              unfold Frm.bs Frm.tail tagBs
              simp only
              rw [if_neg (by omega), be2_of, Int.toNat_natCast, be2_of]
              rfl
        · refine .inr ⟨⟨d, s, -1, a.toNat * 256 + b.toNat, q⟩, ⟨by simp only; omega, .inl ⟨rfl, fun e => ht ?_⟩⟩, ?_⟩
          · simp only at e
            exact ⟨UInt8.toNat_inj.1 (show a.toNat = 129 by omega), UInt8.toNat_inj.1 (show b.toNat = 0 by omega)⟩
          · unfold Frm.bs Frm.tail tagBs
            simp only
            rw [if_pos trivial, be2_of]
            rfl
    · exact .inl (.inr (.inl ⟨d, r, rfl, by omega⟩))
  · exact .inl (.inl (by omega))
/-- What ends too early is short, or has a tag's beginning, and is short for that. -/
theorem short_shape {l : List UInt8} (h : FShort l) : l.length < 14 ∨ (14 ≤ l.length ∧ l.length < 18 ∧ l[12]? = some 0x81 ∧ l[13]? = some 0) := by
  rcases h with h | ⟨d, r, rfl, h⟩ | ⟨d, s, r, rfl, h | ⟨q, rfl, h⟩⟩
  · exact .inl (by omega)
  · exact .inl (by rw [List.length_append, M6.bs_len]; omega)
  · exact .inl (by rw [List.length_append, List.length_append, M6.bs_len, M6.bs_len]; omega)
  · refine .inr ⟨by simp [M6.bs_len]; omega, by simp [M6.bs_len]; omega, rfl, rfl⟩
theorem plain_at (dst src : M6) (ty : Nat) (b : List UInt8) (h : ty < 65536) (h8 : ty ≠ 33024) :
    ∃ u v : UInt8, (Frm.bs ⟨dst, src, -1, ty, b⟩)[12]? = some u ∧ (Frm.bs ⟨dst, src, -1, ty, b⟩)[13]? = some v ∧ ¬ (u.toNat = 129 ∧ v.toNat = 0) := by
  refine ⟨UInt8.ofNat (ty / 256), UInt8.ofNat ty, rfl, rfl, ?_⟩
  rw [ofNat_lt, ofNat_lt]
  omega
theorem tagged_at (dst src : M6) (v : Int) (ty : Nat) (b : List UInt8) (h : v ≠ -1) : (Frm.bs ⟨dst, src, v, ty, b⟩)[12]? = some 0x81 ∧ (Frm.bs ⟨dst, src, v, ty, b⟩)[13]? = some 0 := by
  unfold Frm.bs Frm.tail tagBs
  rw [if_neg h]
  exact ⟨rfl, rfl⟩
theorem ref_same (t1 t2 t3 : ByteArray) (v y : Int) (w : World) : (Op.equalIn 10000 35 (.agg #[.string t1, .string t2, .int .i64 v, .int .u32 y, .string t3]) (.agg #[.string t1, .string t2, .int .i64 v, .int .u32 y, .string t3])).run Tryd.prog w = .ok true w := by
  have u1 := Tryd.underlying9
  have u2 := Tryd.underlying3
  have u3 := Tryd.underlying33
  have a1 := Tryd.isAgg9
  have a2 := Tryd.isAgg3
  have a3 := Tryd.isAgg33
  have z1 := Tryd.sizeOf9
  have z2 := Tryd.sizeOf3
  have z3 := Tryd.sizeOf33
  have hS : Tryd.prog.underlying 35 = some (.struct (Tryd.prog.fieldsOf 35)) := by kernel_rfl
  have hp : Tryd.prog.stoodInHeld 35 = false := by kernel_rfl
  rw [show (10000 : Nat) = 9999 + 1 from rfl, run_equalIn_agg w 9999 35 _ _ hS hp]
  simp only [Program.fieldsOf, Tryd.underlying35]
  go_simp
end Go.Proofs.YtifjelinojndoaaDoor
