/-
  What is proved: each row of bytes is no packet's, or begins with the bytes of the packet that Parse tells, but that a sum of FFFF may stand for one of 0.
  Conditions: at most three thousand bytes.
-/
import Derived.Test.YtbielhdmikcngaaDoorVFld
namespace Go.Proofs.YtbielhdmikcngaaDoor
open Go.RowKit

/-- Bytes are others' first ones, but for a sum of 0 and of FFFF. -/
def Near (u v : List UInt8) : Prop :=
  (∀ i, i < u.length → ∃ x, u[i]? = some x ∧ v[i]? = some x) ∨
  (u[10]? = some 0 ∧ u[11]? = some 0 ∧ v[10]? = some 255 ∧ v[11]? = some 255 ∧ ∀ i, i < u.length → i ≠ 10 → i ≠ 11 → ∃ x, u[i]? = some x ∧ v[i]? = some x)
theorem ip_in {h : Hd} (hh : h.In) (b : List UInt8) (hb : b.length ≤ 3000) : (h.ip b).Own := by
  refine ⟨⟨hh.tos, hh.id, ?_, hh.ttl, hh.proto, hh.src, hh.dst, ?_⟩, hb⟩
  · have := hh.bits
    show _ ≤ ((h.bits % 8192 * 8 : Nat) : Int) ∧ ((h.bits % 8192 * 8 : Nat) : Int) ≤ _
    omega
  · show b.length ≤ _
    omega
theorem ip_bits {h : Hd} (h1 : h.bits < 32768) (b : List UInt8) : (h.ip b).bits = h.bits := by
  show (if decide (h.bits / 16384 % 2 = 1) = true then 16384 else 0) + (if decide (h.bits / 8192 % 2 = 1) = true then 8192 else 0) + (((h.bits % 8192 * 8 : Nat) : Int) / 8).toNat = h.bits
  have e : (((h.bits % 8192 * 8 : Nat) : Int) / 8).toNat = h.bits % 8192 := by omega
  rw [e]
  simp only [decide_eq_true_eq]
  split <;> split <;> omega
theorem ip_hd {h : Hd} (h1 : h.first = 69) (h2 : h.bits < 32768) (b : List UInt8) (h3 : 20 + b.length = h.size) (c : Nat) : (h.ip b).hd c = { h with c := c } := by
  have e1 := ip_bits h2 b
  obtain ⟨first, tos, size, id, bits, ttl, proto, c', src, dst⟩ := h
  simp only at h1 h3
  subst h1 h3
  unfold Ip.hd
  rw [e1]
  rfl
theorem code_zero {h : Hd} {r : List UInt8} (hc : h.code r = 0) : h.wrong (20 + r.length) = 0 ∧ ck h.bs = 0 ∧ h.bits < 32768 ∧ (h.ip (r.take (h.size - 20))).bad = 0 := by
  unfold Hd.code at hc
  by_cases h1 : h.wrong (20 + r.length) ≠ 0
  · rw [if_pos h1] at hc
    exact absurd hc h1
  · rw [if_neg h1] at hc
    by_cases h2 : ck h.bs ≠ 0
    · rw [if_pos h2] at hc
      cases hc
    · rw [if_neg h2] at hc
      by_cases h3 : 32768 ≤ h.bits ∨ (h.ip (r.take (h.size - 20))).bad ≠ 0
      · rw [if_pos h3] at hc
        cases hc
      · exact ⟨Decidable.not_not.1 h1, Decidable.not_not.1 h2, Nat.lt_of_not_le fun h => h3 (.inl h), Decidable.not_not.1 fun h => h3 (.inr h)⟩
theorem near_head {h : Hd} (h1 : h.first = 69) (h2 : h.bits < 32768) (hc : h.c < 65536) (h3 : ck h.bs = 0) (b r : List UInt8) (h4 : 20 + b.length = h.size) (hb : ∃ k, b = r.take k) : Near (h.ip b).bs (h.bs ++ r) := by
  have e0 : (h.ip b).bs = ({ h with c := (h.ip b).sum } : Hd).bs ++ b := by
    show ((h.ip b).hd (h.ip b).sum).bs ++ b = _
    rw [ip_hd h1 h2 b h4]
  have e1 : (h.ip b).sum = 65535 - fold h.rest := by
    show ck ((h.ip b).hd 0).bs = _
    rw [ip_hd h1 h2 b h4]
    rfl
  rw [ck_zero, hd_sum h hc] at h3
  have e2 : h.c = (h.ip b).sum ∨ ((h.ip b).sum = 0 ∧ h.c = 65535) := by
    rw [e1]
    unfold fold
    split <;> omega
  have tl : ∀ i, 20 ≤ i → i < 20 + b.length → ∀ u v : List UInt8, u.length = 20 → v.length = 20 → ∃ x, (u ++ b)[i]? = some x ∧ (v ++ r)[i]? = some x := by
    intro i hi hl u v hu hv
    obtain ⟨k, rfl⟩ := hb
    have hlt : i - 20 < (r.take k).length := by omega
    refine ⟨(r.take k)[i - 20], ?_, ?_⟩
    · rw [List.getElem?_append_right (by omega), hu]
      exact List.getElem?_eq_getElem hlt
    · rw [List.getElem?_append_right (by omega), hv, List.getElem_take]
      exact List.getElem?_eq_getElem _
  rcases e2 with e2 | ⟨e2, e3⟩
  · refine .inl fun i hi => ?_
    have e4 : ({ h with c := (h.ip b).sum } : Hd) = h := by rw [← e2]
    rw [e0, e4] at hi ⊢
    rw [List.length_append, Hd.bs_len] at hi
    by_cases h20 : i < 20
    · refine ⟨h.bs[i]'(by rw [Hd.bs_len]; exact h20), ?_, ?_⟩ <;>
      · rw [List.getElem?_append_left (by rw [Hd.bs_len]; exact h20)]
        exact List.getElem?_eq_getElem _
    · exact tl i (by omega) hi _ _ (Hd.bs_len _) (Hd.bs_len _)
  · have e5 : (h.ip b).bs = ({ h with c := 0 } : Hd).bs ++ b := by rw [e0, e2]
    rw [e5]
    obtain ⟨first, tos, size, id, bits, ttl, proto, c', src, dst⟩ := h
    simp only at e3
    subst e3
    refine .inr ⟨by show some (UInt8.ofNat (0 / 256)) = some 0; decide, by show some (UInt8.ofNat 0) = some 0; decide, by show some (UInt8.ofNat (65535 / 256)) = some 255; decide, by show some (UInt8.ofNat 65535) = some 255; decide, fun i hi n1 n2 => ?_⟩
    rw [List.length_append, Hd.bs_len] at hi
    by_cases h20 : i < 20
    · have hcases : i = 0 ∨ i = 1 ∨ i = 2 ∨ i = 3 ∨ i = 4 ∨ i = 5 ∨ i = 6 ∨ i = 7 ∨ i = 8 ∨ i = 9 ∨ i = 12 ∨ i = 13 ∨ i = 14 ∨ i = 15 ∨ i = 16 ∨ i = 17 ∨ i = 18 ∨ i = 19 := by omega
      rcases hcases with rfl | rfl | rfl | rfl | rfl | rfl | rfl | rfl | rfl | rfl | rfl | rfl | rfl | rfl | rfl | rfl | rfl | rfl <;> exact ⟨_, rfl, rfl⟩
    · exact tl i (by omega) hi _ _ (Hd.bs_len _) (Hd.bs_len _)
/-- The kinds of a row of bytes. -/
theorem parse_kind (ls : List UInt8) (hL : ls.length ≤ 3000) :
    (∀ (v : Value) (W : World), Rd W v ls → Calls Tryd.prog 6 #[v] W fun e w' => ∃ n l, VErr n l W e w') ∨
    (∃ z : Ip, z.Own ∧ z.bad = 0 ∧ z.bs.length ≤ ls.length ∧ Near z.bs ls ∧ ∀ (v : Value) (W : World), Rd W v ls → Calls Tryd.prog 6 #[v] W (InOk z W)) := by
  by_cases hs : ls.length < 20
  · exact .inl fun v W hr => (vParse_short ls v W hr hs).mono fun e w' h => ⟨_, _, h⟩
  · obtain ⟨h, r, hh, rfl⟩ := hd_split ls (by omega)
    rw [List.length_append, Hd.bs_len] at hL
    by_cases hc : h.code r = 0
    · obtain ⟨c1, c2, c3, c4⟩ := code_zero hc
      obtain ⟨w1, w2, w3, w4⟩ := wrong_zero c1
      have hb : 20 + (r.take (h.size - 20)).length = h.size := by rw [List.length_take]; omega
      refine .inr ⟨h.ip (r.take (h.size - 20)), ip_in hh _ (by omega), c4, ?_, near_head (by omega) c3 hh.c c2 _ _ hb ⟨_, rfl⟩, fun v W hr => ?_⟩
      · rw [Ip.bs_len, List.length_append, Hd.bs_len]
        show 20 + (r.take (h.size - 20)).length ≤ _
        omega
      · refine (vParse_any h hh r v W hr (by rw [List.length_append, Hd.bs_len]; omega)).mono ?_
        rintro e w' (⟨h1, _⟩ | ⟨_, h2⟩)
        · exact absurd hc h1
        · exact h2
    · refine .inl fun v W hr => (vParse_any h hh r v W hr (by rw [List.length_append, Hd.bs_len]; omega)).mono ?_
      rintro e w' (⟨_, h1⟩ | ⟨h2, _⟩)
      · exact ⟨_, _, h1⟩
      · exact absurd h2 hc
end Go.Proofs.YtbielhdmikcngaaDoor
