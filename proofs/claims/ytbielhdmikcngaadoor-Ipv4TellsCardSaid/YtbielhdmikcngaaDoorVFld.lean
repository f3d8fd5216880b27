/-
  What is proved: where the fields of a right packet stand in its bytes.
  Conditions: the packet's numbers fit their types.
-/
import Derived.Test.YtbielhdmikcngaaDoorVBox
namespace Go.Proofs.YtbielhdmikcngaaDoor
open Go.RowKit

theorem dr_below {B : Nat} {w W : World} (h : Below B w W) (n : Nat) : Below B w (W.drewN n) := ⟨h.os, h.tape, h.output, h.size, h.block⟩
theorem dr_rd {W : World} {v : Value} {bs : List UInt8} (h : Rd W v bs) (k : Nat) : Rd (W.drewN k) v bs := h.keep (fun _ _ h => h)
theorem back_at {W : World} {g o n c K : Nat} {bs : List UInt8} (h : Rd W (.slice (some ⟨g, o, none⟩) n c) bs) (hK : K ≤ bs.length) : Rd W (.slice (some ⟨g, o + K, none⟩) (n - K) (c - K)) (bs.drop K) := by
  obtain ⟨A', c', hv', hc', hr⟩ := h
  cases hv'
  refine ⟨some ⟨g, o + K, none⟩, c - K, by rw [List.length_drop], by rw [List.length_drop]; omega, fun h0 => ⟨g, o + K, rfl, fun i u hu => ?_⟩⟩
  rw [List.length_drop] at h0
  obtain ⟨g', o', e, hi⟩ := hr (by omega)
  cases e
  rw [List.getElem?_drop] at hu
  rw [Nat.add_assoc]
  exact hi (K + i) u hu
/-- A number's bytes. -/
theorem two_bytes (n : Nat) (h : n < 65536) : ∃ a b : Nat, a < 256 ∧ b < 256 ∧ (UInt8.ofNat (n / 256)).toNat = a ∧ (UInt8.ofNat n).toNat = b ∧ a * 256 + b = n :=
  ⟨n / 256, n % 256, by omega, by omega, by rw [ofNat_lt]; omega, by rw [ofNat_lt], by omega⟩
theorem four_bytes (n : Nat) (h : n < 4294967296) : ∃ a b c d : Nat, a < 256 ∧ b < 256 ∧ c < 256 ∧ d < 256 ∧ (UInt8.ofNat (n / 16777216)).toNat = a ∧ (UInt8.ofNat (n / 65536)).toNat = b ∧ (UInt8.ofNat (n / 256)).toNat = c ∧ (UInt8.ofNat n).toNat = d ∧
    a * 16777216 + b * 65536 + c * 256 + d = n :=
  ⟨n / 16777216, n / 65536 % 256, n / 256 % 256, n % 256, by omega, by omega, by omega, by omega, by rw [ofNat_lt]; omega, by rw [ofNat_lt], by rw [ofNat_lt], by rw [ofNat_lt], by omega⟩
/-- The bytes of a packet, in letters. -/
structure FldAt (q : Ip) (W : World) (b M y2 y3 y4 y5 y6 y7 s0 s1 s2 s3 t0 t1 t2 t3 : Nat) : Prop where
  c0 : W.cell? ⟨b, 0, none⟩ = some (.int .u8 69)
  c1 : W.cell? ⟨b, 1, none⟩ = some (.int .u8 (q.tos : Int))
  c2 : W.cell? ⟨b, 2, none⟩ = some (.int .u8 (y2 : Int))
  c3 : W.cell? ⟨b, 3, none⟩ = some (.int .u8 (y3 : Int))
  c4 : W.cell? ⟨b, 4, none⟩ = some (.int .u8 (y4 : Int))
  c5 : W.cell? ⟨b, 5, none⟩ = some (.int .u8 (y5 : Int))
  c6 : W.cell? ⟨b, 6, none⟩ = some (.int .u8 (y6 : Int))
  c7 : W.cell? ⟨b, 7, none⟩ = some (.int .u8 (y7 : Int))
  c8 : W.cell? ⟨b, 8, none⟩ = some (.int .u8 (q.ttl : Int))
  c9 : W.cell? ⟨b, 9, none⟩ = some (.int .u8 (q.proto : Int))
  c12 : W.cell? ⟨b, 12, none⟩ = some (.int .u8 (s0 : Int))
  c13 : W.cell? ⟨b, 13, none⟩ = some (.int .u8 (s1 : Int))
  c14 : W.cell? ⟨b, 14, none⟩ = some (.int .u8 (s2 : Int))
  c15 : W.cell? ⟨b, 15, none⟩ = some (.int .u8 (s3 : Int))
  c16 : W.cell? ⟨b, 16, none⟩ = some (.int .u8 (t0 : Int))
  c17 : W.cell? ⟨b, 17, none⟩ = some (.int .u8 (t1 : Int))
  c18 : W.cell? ⟨b, 18, none⟩ = some (.int .u8 (t2 : Int))
  c19 : W.cell? ⟨b, 19, none⟩ = some (.int .u8 (t3 : Int))
  whole : M = 20 + q.b.length
  rest : Rd W (.slice (some ⟨b, 20, none⟩) q.b.length q.b.length) q.b
theorem FldAt.dr {q : Ip} {W : World} {b M y2 y3 y4 y5 y6 y7 s0 s1 s2 s3 t0 t1 t2 t3 : Nat} (h : FldAt q W b M y2 y3 y4 y5 y6 y7 s0 s1 s2 s3 t0 t1 t2 t3) (n : Nat) : FldAt q (W.drewN n) b M y2 y3 y4 y5 y6 y7 s0 s1 s2 s3 t0 t1 t2 t3 :=
  ⟨h.c0, h.c1, h.c2, h.c3, h.c4, h.c5, h.c6, h.c7, h.c8, h.c9, h.c12, h.c13, h.c14, h.c15, h.c16, h.c17, h.c18, h.c19, h.whole, dr_rd h.rest n⟩
theorem fld_at (q : Ip) (hq : q.Own) (hn : q.bad = 0) (W : World) (b : Nat) (h : BAt W b q.bs) :
    ∃ y2 y3 y4 y5 y6 y7 s0 s1 s2 s3 t0 t1 t2 t3 : Nat, FldAt q W b q.bs.length y2 y3 y4 y5 y6 y7 s0 s1 s2 s3 t0 t1 t2 t3 ∧
      (y2 < 256 ∧ y3 < 256 ∧ y2 * 256 + y3 = q.bs.length) ∧ (y4 < 256 ∧ y5 < 256 ∧ y4 * 256 + y5 = q.id) ∧ (y6 < 256 ∧ y7 < 256 ∧ y6 * 256 + y7 = q.bits) ∧
      (s0 < 256 ∧ s1 < 256 ∧ s2 < 256 ∧ s3 < 256 ∧ s0 * 16777216 + s1 * 65536 + s2 * 256 + s3 = q.src) ∧ (t0 < 256 ∧ t1 < 256 ∧ t2 < 256 ∧ t3 < 256 ∧ t0 * 16777216 + t1 * 65536 + t2 * 256 + t3 = q.dst) := by
  have hL := q.bs_len
  have hl := hq.bs_le
  have hi := hq.inn
  obtain ⟨y2, y3, a1, a2, a3, a4, a5⟩ := two_bytes q.bs.length (by omega)
  obtain ⟨y4, y5, b1, b2, b3, b4, b5⟩ := two_bytes q.id hi.id
  obtain ⟨y6, y7, c1, c2, c3, c4, c5⟩ := two_bytes q.bits (by have := Ip.bits_lt hn; omega)
  obtain ⟨s0, s1, s2, s3, d1, d2, d3, d4, d5, d6, d7, d8, d9⟩ := four_bytes q.src hi.src
  obtain ⟨t0, t1, t2, t3, e1, e2, e3, e4, e5, e6, e7, e8, e9⟩ := four_bytes q.dst hi.dst
  rw [hL] at a3 a4
  have one : ∀ n, n < 256 → (UInt8.ofNat n).toNat = n := fun n h => by rw [ofNat_lt]; exact Nat.mod_eq_of_lt h
  have get : ∀ (i n : Nat) (u : UInt8), q.bs[i]? = some u → u.toNat = n → W.cell? ⟨b, i, none⟩ = some (.int .u8 (n : Int)) := fun i n u h1 h2 => by rw [← h2]; exact h.cell i u h1
  have hr : Rd W (.slice (some ⟨b, 20, none⟩) q.b.length q.b.length) q.b := by
    have h1 := back_at (K := 20) h.rd q.bs_ge
    have h2 : q.bs.drop 20 = q.b := by unfold Ip.bs; exact List.drop_left' (Hd.bs_len _)
    rw [h2, hL, Nat.zero_add, Nat.add_sub_cancel_left] at h1
    exact h1
  exact ⟨y2, y3, y4, y5, y6, y7, s0, s1, s2, s3, t0, t1, t2, t3,
    ⟨get 0 69 _ rfl (one 69 (by decide)), get 1 _ _ rfl (one _ hi.tos), get 2 _ _ rfl a3, get 3 _ _ rfl a4, get 4 _ _ rfl b3, get 5 _ _ rfl b4, get 6 _ _ rfl c3, get 7 _ _ rfl c4, get 8 _ _ rfl (one _ hi.ttl), get 9 _ _ rfl (one _ hi.proto),
      get 12 _ _ rfl d5, get 13 _ _ rfl d6, get 14 _ _ rfl d7, get 15 _ _ rfl d8, get 16 _ _ rfl e5, get 17 _ _ rfl e6, get 18 _ _ rfl e7, get 19 _ _ rfl e8, hL, hr⟩,
    ⟨a1, a2, a5⟩, ⟨b1, b2, b5⟩, ⟨c1, c2, c5⟩, ⟨d1, d2, d3, d4, d9⟩, ⟨e1, e2, e3, e4, e9⟩⟩
/-- What the two bytes of the flags and the offset say. -/
theorem bits_say {q : Ip} (hn : q.bad = 0) : ((q.bits % 8192 : Nat) : Int) * 8 = q.off ∧ (((q.bits / 8192 % 2 : Nat) : Int) == 1) = q.mf ∧ (((q.bits / 16384 % 2 : Nat) : Int) == 1) = q.df ∧ q.bits < 32768 := by
  obtain ⟨z1, z2, z3, _⟩ := bad_zero hn
  obtain ⟨tos, id, df, mf, off, ttl, proto, src, dst, b⟩ := q
  simp only at z1 z2 z3
  unfold Ip.bits Ip.fl
  have hk : (off / 8).toNat < 8192 := by omega
  have ho : (((off / 8).toNat * 8 : Nat) : Int) = off := by omega
  generalize (off / 8).toNat = k at *
  simp only
  have d : ∀ n : Nat, ((n : Int) == 1) = decide (n = 1) := fun n => by by_cases h : n = 1 <;> simp [h] <;> omega
  rw [d, d, ← ho]
  cases df <;> cases mf <;> simp <;> omega
end Go.Proofs.YtbielhdmikcngaaDoor
