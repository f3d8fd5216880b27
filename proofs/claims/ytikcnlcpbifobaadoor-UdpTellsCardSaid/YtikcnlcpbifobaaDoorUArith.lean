/-
  What is proved: what the sum of a datagram's bytes is: written it is valid, and what other addresses do to it.
  Conditions: the numbers fit their types.
-/
import Derived.Test.YtikcnlcpbifobaaDoorUShown
namespace Go.Proofs.YtikcnlcpbifobaaDoor
open Go.RowKit

theorem uck_zero (bs : List UInt8) : ck bs = 0 ↔ (wsum true bs % 65535 = 0 ∧ 0 < wsum true bs) := by
  unfold ck fold
  split <;> omega
theorem ube2_sum (n : Nat) (hn : n < 65536) : (UInt8.ofNat (n / 256)).toNat * 256 + (UInt8.ofNat n).toNat = n := by rw [ofNat_lt, ofNat_lt]; omega
theorem wsum_hd8 (a b n c : Nat) (ha : a < 65536) (hb : b < 65536) (hn : n < 65536) (hc : c < 65536) (r : List UInt8) : wsum true (hd8 a b n c ++ r) = a + b + n + c + wsum true r := by
  have e1 := ube2_sum a ha
  have e2 := ube2_sum b hb
  have e3 := ube2_sum n hn
  have e4 := ube2_sum c hc
  have k : wsum true (hd8 a b n c ++ r) = (UInt8.ofNat (a / 256)).toNat * 256 + ((UInt8.ofNat a).toNat + ((UInt8.ofNat (b / 256)).toNat * 256 + ((UInt8.ofNat b).toNat + ((UInt8.ofNat (n / 256)).toNat * 256 + ((UInt8.ofNat n).toNat + ((UInt8.ofNat (c / 256)).toNat * 256 + ((UInt8.ofNat c).toNat + wsum true r))))))) := rfl
  omega
theorem wsum_psd (s t n : Nat) (hs : s < 4294967296) (ht : t < 4294967296) (hn : n < 65536) (r : List UInt8) : wsum true (psd s t 17 (n : Nat) ++ r) = s / 65536 + s % 65536 + (t / 65536 + t % 65536) + 17 + n + wsum true r := by
  have k : wsum true (psd s t 17 (n : Nat) ++ r) = (UInt8.ofNat (s / 16777216)).toNat * 256 + ((UInt8.ofNat (s / 65536)).toNat + ((UInt8.ofNat (s / 256)).toNat * 256 + ((UInt8.ofNat s).toNat + ((UInt8.ofNat (t / 16777216)).toNat * 256 + ((UInt8.ofNat (t / 65536)).toNat + ((UInt8.ofNat (t / 256)).toNat * 256 + ((UInt8.ofNat t).toNat +
    ((0 : UInt8).toNat * 256 + ((UInt8.ofNat 17).toNat + ((b8i ((n : Int) / 256)).toNat * 256 + ((b8i (n : Int)).toNat + wsum true r))))))))))) := rfl
  have e1 : (b8i ((n : Int) / 256)).toNat = n / 256 := by have := b8i_toNat ((n : Int) / 256); omega
  have e2 : (b8i (n : Int)).toNat = n % 256 := by have := b8i_toNat (n : Int); omega
  have e3 : (UInt8.ofNat 17).toNat = 17 := rfl
  have e4 : (0 : UInt8).toNat = 0 := rfl
  rw [k, e1, e2, e3, e4]
  simp only [ofNat_lt]
  omega
/-- What a datagram's bytes weigh, with its head's sum. -/
def uw (s t a b n c : Nat) (r : List UInt8) : Nat := s / 65536 + s % 65536 + (t / 65536 + t % 65536) + 17 + n + (a + b + n + c + wsum true r)
theorem wsum_all (s t a b n c : Nat) (r : List UInt8) (hs : s < 4294967296) (ht : t < 4294967296) (ha : a < 65536) (hb : b < 65536) (hn : n < 65536) (hc : c < 65536) : wsum true (psd s t 17 (n : Nat) ++ (hd8 a b n c ++ r)) = uw s t a b n c r := by
  rw [wsum_psd s t n hs ht hn, wsum_hd8 a b n c ha hb hn hc]
  rfl
theorem ck_uw (s t a b n c : Nat) (r : List UInt8) (hs : s < 4294967296) (ht : t < 4294967296) (ha : a < 65536) (hb : b < 65536) (hn : n < 65536) (hc : c < 65536) : ck (psd s t 17 (n : Nat) ++ (hd8 a b n c ++ r)) = 0 ↔ uw s t a b n c r % 65535 = 0 := by
  rw [uck_zero, wsum_all s t a b n c r hs ht ha hb hn hc]
  have : 0 < uw s t a b n c r := by unfold uw; omega
  constructor
  · exact fun h => h.1
  · exact fun h => ⟨h, this⟩
structure Dg.Ok (d : Dg) (s t : Nat) : Prop where
  inn : d.In
  n : d.n < 65536
  s : s < 4294967296
  t : t < 4294967296
section
variable {d : Dg} {s t : Nat}
theorem Dg.sum_of (h : d.Ok s t) (hp : d.plain = false) : d.sum s t = 65535 - (uw s t d.src d.dst d.n 0 d.b - 1) % 65535 - 1 ∨ d.sum s t = 65535 := by
  have hp' : ¬ d.plain = true := by rw [hp]; decide
  unfold Dg.sum
  rw [if_neg hp']
  have k : d.ck s t = 65535 - fold (uw s t d.src d.dst d.n 0 d.b) := by
    unfold Dg.ck
    show 65535 - fold (wsum true _) = _
    rw [wsum_all s t d.src d.dst d.n 0 d.b h.s h.t h.inn.src h.inn.dst h.n (by decide)]
  have h0 : uw s t d.src d.dst d.n 0 d.b ≠ 0 := by unfold uw; omega
  unfold fold at k
  rw [if_neg h0] at k
  split
  · exact .inr rfl
  · exact .inl (by omega)
theorem Dg.valid (h : d.Ok s t) (hp : d.plain = false) : uw s t d.src d.dst d.n (d.sum s t) d.b % 65535 = 0 := by
  have hp' : ¬ d.plain = true := by rw [hp]; decide
  have k : d.ck s t = 65535 - fold (uw s t d.src d.dst d.n 0 d.b) := by
    unfold Dg.ck
    show 65535 - fold (wsum true _) = _
    rw [wsum_all s t d.src d.dst d.n 0 d.b h.s h.t h.inn.src h.inn.dst h.n (by decide)]
  have h0 : uw s t d.src d.dst d.n 0 d.b ≠ 0 := by unfold uw; omega
  have h1 : ∀ c, uw s t d.src d.dst d.n c d.b = uw s t d.src d.dst d.n 0 d.b + c := fun c => by unfold uw; omega
  unfold fold at k
  rw [if_neg h0] at k
  rw [h1]
  generalize uw s t d.src d.dst d.n 0 d.b = P at *
  unfold Dg.sum
  rw [if_neg hp']
  split <;> omega
theorem Dg.sum_zero : d.sum s t = 0 ↔ d.plain = true := by
  unfold Dg.sum
  split
  · rename_i h
    simp [h]
  · rename_i h
    split
    · simp [h]
    · rename_i h2
      simp [h, h2]
theorem Dg.bs_more (d : Dg) (s t : Nat) (more : List UInt8) : d.bs s t ++ more = hd8 d.src d.dst d.n (d.sum s t) ++ (d.b ++ more) := by simp [Dg.bs]
theorem Dg.take_more (d : Dg) (c : Nat) (more : List UInt8) : (hd8 d.src d.dst d.n c ++ (d.b ++ more)).take d.n = hd8 d.src d.dst d.n c ++ d.b := by
  rw [← List.append_assoc]
  exact List.take_left' (by rw [List.length_append, hd8_len]; rfl)
/-- What is written is read, by who has addresses of the same weight. -/
theorem Dg.code_back (h : d.Ok s t) (s2 t2 : Nat) (hs2 : s2 < 4294967296) (ht2 : t2 < 4294967296) (more : List UInt8) (he : d.plain = true ∨ (s2 / 65536 + s2 % 65536 + (t2 / 65536 + t2 % 65536)) % 65535 = (s / 65536 + s % 65536 + (t / 65536 + t % 65536)) % 65535) : ucode s2 t2 d.src d.dst d.n (d.sum s t) (d.b ++ more) = 0 := by
  have e1 : d.n = 8 + d.b.length := rfl
  unfold ucode
  rw [if_neg (by omega), if_neg (by rw [List.length_append]; omega), if_neg]
  rintro ⟨h1, h2⟩
  apply h2
  have hp : d.plain = false := by
    cases hq : d.plain
    · rfl
    · exact absurd (Dg.sum_zero.2 hq) h1
  rw [Dg.take_more, ck_uw s2 t2 d.src d.dst d.n (d.sum s t) d.b hs2 ht2 h.inn.src h.inn.dst h.n (d.sum_lt s t)]
  have hv := Dg.valid h hp
  have he' := he.resolve_left (by rw [hp]; decide)
  unfold uw at hv ⊢
  generalize d.src + d.dst + d.n + d.sum s t + wsum true d.b = R at *
  omega
theorem Dg.dec_plain (d : Dg) (s t : Nat) : decide (d.sum s t = 0) = d.plain := by
  cases hq : d.plain
  · rw [decide_eq_false (fun h => by have := Dg.sum_zero.1 h; rw [hq] at this; cases this)]
  · rw [decide_eq_true (Dg.sum_zero.2 hq)]
theorem Dg.back_b (d : Dg) (more : List UInt8) : (d.b ++ more).take (d.n - 8) = d.b := List.take_left' (by show _ = 8 + _ - 8; omega)
end
/-- Other addresses of another weight are seen. -/
theorem Dg.code_strange {d : Dg} {s t : Nat} (h : d.Ok s t) (hp : d.plain = false) (s2 t2 : Nat) (hs2 : s2 < 4294967296) (ht2 : t2 < 4294967296) (more : List UInt8) (he : (s2 / 65536 + s2 % 65536 + (t2 / 65536 + t2 % 65536)) % 65535 ≠ (s / 65536 + s % 65536 + (t / 65536 + t % 65536)) % 65535) : ucode s2 t2 d.src d.dst d.n (d.sum s t) (d.b ++ more) = 4 := by
  have e1 : d.n = 8 + d.b.length := rfl
  unfold ucode
  rw [if_neg (by omega), if_neg (by rw [List.length_append]; omega), if_pos]
  refine ⟨fun h0 => ?_, ?_⟩
  · have := Dg.sum_zero.1 h0
    rw [hp] at this
    cases this
  · rw [Dg.take_more, Ne, ck_uw s2 t2 d.src d.dst d.n (d.sum s t) d.b hs2 ht2 h.inn.src h.inn.dst h.n (d.sum_lt s t)]
    have hv := Dg.valid h hp
    unfold uw at hv ⊢
    generalize d.src + d.dst + d.n + d.sum s t + wsum true d.b = R at *
    omega
/-- Parse of a datagram's bytes, whatever stands behind. -/
theorem uParse_back {d : Dg} {s t : Nat} (h : d.Ok s t) (s2 t2 : Nat) (hs2 : s2 < 4294967296) (ht2 : t2 < 4294967296) (more : List UInt8) (he : d.plain = true ∨ (s2 / 65536 + s2 % 65536 + (t2 / 65536 + t2 % 65536)) % 65535 = (s / 65536 + s % 65536 + (t / 65536 + t % 65536)) % 65535)
    (A : Option Addr) (cap m : Nat) (hm : m = d.n + more.length) (w : World) (hr : Rd w (.slice A m cap) (d.bs s t ++ more)) (hL : d.n + more.length ≤ 1099511627776) :
    Calls Tryd.prog 9 #[.slice A m cap, .int .u32 (s2 : Int), .int .u32 (t2 : Int)] w (PDgTold d w) := by
  have e1 : d.n = 8 + d.b.length := rfl
  have em : m = 8 + (d.b ++ more).length := by rw [hm, List.length_append]; omega
  subst em
  rw [Dg.bs_more] at hr
  refine (uParse_long d.src h.inn.src d.dst h.inn.dst d.n h.n (d.sum s t) (d.sum_lt s t) (d.b ++ more) A cap s2 t2 w hr (by rw [List.length_append, hd8_len]; omega)).mono ?_
  rintro e w' (⟨hn, _⟩ | ⟨_, ho⟩)
  · exact absurd (Dg.code_back h s2 t2 hs2 ht2 more he) hn
  · rwa [Dg.dec_plain, Dg.back_b] at ho
theorem uParse_strange {d : Dg} {s t : Nat} (h : d.Ok s t) (hp : d.plain = false) (s2 t2 : Nat) (hs2 : s2 < 4294967296) (ht2 : t2 < 4294967296) (he : (s2 / 65536 + s2 % 65536 + (t2 / 65536 + t2 % 65536)) % 65535 ≠ (s / 65536 + s % 65536 + (t / 65536 + t % 65536)) % 65535)
    (A : Option Addr) (cap m : Nat) (hm : m = d.n) (w : World) (hr : Rd w (.slice A m cap) (d.bs s t)) :
    Calls Tryd.prog 9 #[.slice A m cap, .int .u32 (s2 : Int), .int .u32 (t2 : Int)] w (ToldErr (.agg noDgRow) 4 [udpWord] w) := by
  have e1 : d.n = 8 + d.b.length := rfl
  subst hm
  have hn := h.n
  have hc := Dg.code_strange h hp s2 t2 hs2 ht2 [] he
  rw [List.append_nil] at hc
  refine (uParse_long d.src h.inn.src d.dst h.inn.dst d.n h.n (d.sum s t) (d.sum_lt s t) d.b A cap s2 t2 w hr (by rw [List.length_append, hd8_len]; omega)).mono ?_
  rw [hc]
  rintro e w' (⟨_, ho⟩ | ⟨hn, _⟩)
  · exact ho
  · exact absurd hn (by decide)
end Go.Proofs.YtikcnlcpbifobaaDoor
