/-
  What is proved: few and Bytes of an IPv4 packet in the spelling of the laws' walks; bytes cut off, and a head of which one byte is turned, are no packet's.
  Conditions: the packet's numbers fit their types; the bytes' capacity is an int.
-/
import Derived.Test.YtdhndahoaobhpaaDoorVFew
namespace Go.Proofs.YtdhndahoaobhpaaDoor
open Go.RowKit

/-- A packet of one's own: at most three thousand bytes. -/
structure Ip.Own (q : Ip) : Prop where
  inn : q.In
  few : q.b.length ≤ 3000
theorem bytes_ok (q : Ip) (hq : q.Own) (hn : q.bad = 0) (A : Option Addr) (k : Nat) (w : World) (hr : Rd w (.slice A q.b.length k) q.b) :
    Calls Tryd.prog 5 #[.agg #[.int .u8 q.tos, .int .u16 q.id, .bool q.df, .bool q.mf, .int .i64 q.off, .int .u8 q.ttl, .int .u8 q.proto, .int .u32 q.src, .int .u32 q.dst, .slice A q.b.length k]] w
      fun e w' => ∃ b, e = .returned (.tuple #[.slice (some ⟨b, 0, none⟩) q.bs.length q.bs.length, .nilIface]) ∧ w.heap.size ≤ b ∧ BAt w' b q.bs ∧ Below w.heap.size w w' := by
  rw [Ip.bs_len]
  exact (vBytes_ok q hq.inn hn A k w hr).mono fun _ _ ⟨b, he, h1, h2, h3⟩ => ⟨b, by rw [he], h1, h2, h3⟩
theorem bytes_bad (q : Ip) (hq : q.Own) (hn : q.bad ≠ 0) (A : Option Addr) (k : Nat) (w : World) :
    Calls Tryd.prog 5 #[.agg #[.int .u8 q.tos, .int .u16 q.id, .bool q.df, .bool q.mf, .int .i64 q.off, .int .u8 q.ttl, .int .u8 q.proto, .int .u32 q.src, .int .u32 q.dst, .slice A q.b.length k]] w
      fun e w' => ∃ b, e = .returned (.tuple #[.slice none 0 0, .iface 74 (.pointer (some ⟨b, 0, none⟩))]) ∧ Chain w' q.bad [ipWord] (.iface 74 (.pointer (some ⟨b, 0, none⟩))) ∧ Below w.heap.size w w' :=
  vBytes_bad q hn A k w (by have := hq.few; omega)
theorem right_own (q : Ip) (hq : q.Own) (A : Option Addr) (k : Nat) (w : World) :
    Calls Tryd.prog 9 #[.agg #[.int .u8 q.tos, .int .u16 q.id, .bool q.df, .bool q.mf, .int .i64 q.off, .int .u8 q.ttl, .int .u8 q.proto, .int .u32 q.src, .int .u32 q.dst, .slice A q.b.length k]] w (RightTold q w) :=
  right_any q A k w (by have := hq.few; omega)
theorem Ip.Own.bs_le {q : Ip} (h : q.Own) : q.bs.length ≤ 3020 := by rw [Ip.bs_len]; have := h.few; omega
theorem Ip.bs_ge (q : Ip) : 20 ≤ q.bs.length := by rw [Ip.bs_len]; omega
/-- Bytes that end too early. -/
theorem parse_cut (q : Ip) (hq : q.Own) (hn : q.bad = 0) (k : Nat) (hk : k < q.bs.length) (v : Value) (w : World) (hr : Rd w v (q.bs.take k)) :
    Calls Tryd.prog 6 #[v] w fun e w' => ∃ l, VErr 2 l w e w' := by
  have hl : (q.bs.take k).length = k := by rw [List.length_take]; omega
  by_cases h : k < 20
  · exact (vParse_short _ v w hr (by rw [hl]; exact h)).mono fun e w' he => ⟨_, he⟩
  · have e1 : q.bs.take k = (q.hd q.sum).bs ++ q.b.take (k - 20) := by
      unfold Ip.bs
      rw [List.take_append, Hd.bs_len, List.take_of_length_le (by rw [Hd.bs_len]; omega)]
    rw [e1] at hr hl
    have hlen := hq.bs_le
    have e2 : (q.b.take (k - 20)).length = k - 20 := by
      rw [Ip.bs_len] at hk
      rw [List.length_take]
      omega
    have e3 : (q.hd q.sum).code (q.b.take (k - 20)) = 2 := by
      have a : (q.hd q.sum).first = 69 := rfl
      have b : (q.hd q.sum).size = 20 + q.b.length := rfl
      rw [Ip.bs_len] at hk
      have e4 : (q.hd q.sum).wrong (20 + (q.b.take (k - 20)).length) = 2 := by
        unfold Hd.wrong
        rw [a, b, e2, if_neg (by decide), if_neg (by decide), if_neg (by decide), if_neg (by omega), if_pos (by omega)]
      unfold Hd.code
      rw [e4]
      rfl
    refine (vParse_any _ (Ip.hd_in hq.inn hn (sum_lt q)) _ v w hr (by rw [hl]; omega)).mono ?_
    rintro e w' (⟨_, h⟩ | ⟨h, _⟩)
    · rw [e3] at h
      exact ⟨_, h⟩
    · rw [e3] at h
      cases h
/-- One byte of a row, turned. -/
theorem wsum_set : ∀ (h : Bool) (bs : List UInt8) (j : Nat) (a x : UInt8), bs[j]? = some a → ∃ k : Nat, (k = 1 ∨ k = 256) ∧ wsum h (bs.set j x) + k * a.toNat = wsum h bs + k * x.toNat
  | _, [], _, _, _, h => by simp at h
  | true, b :: r, 0, a, x, h => by
    have e : b = a := by simpa using h
    subst e
    refine ⟨256, .inr rfl, ?_⟩
    simp only [List.set_cons_zero, wsum]
    omega
  | false, b :: r, 0, a, x, h => by
    have e : b = a := by simpa using h
    subst e
    refine ⟨1, .inl rfl, ?_⟩
    simp only [List.set_cons_zero, wsum]
    omega
  | true, b :: r, j + 1, a, x, h => by
    obtain ⟨k, hk, e⟩ := wsum_set false r j a x (by simpa using h)
    refine ⟨k, hk, ?_⟩
    simp only [List.set_cons_succ, wsum]
    omega
  | false, b :: r, j + 1, a, x, h => by
    obtain ⟨k, hk, e⟩ := wsum_set true r j a x (by simpa using h)
    refine ⟨k, hk, ?_⟩
    simp only [List.set_cons_succ, wsum]
    omega
theorem ck_turned {l : List UInt8} {j : Nat} {a x : UInt8} (h : ck l = 0) (hj : l[j]? = some a) (hx : x ≠ a) : ck (l.set j x) ≠ 0 := by
  intro h2
  rw [ck_zero] at h h2
  obtain ⟨k, hk, e⟩ := wsum_set true l j a x hj
  have ha := a.toNat_lt
  have hb := x.toNat_lt
  have hne : x.toNat ≠ a.toNat := fun e => hx (UInt8.toNat_inj.1 e)
  rcases hk with rfl | rfl <;> omega
/-- A head of which one byte is another one. -/
theorem parse_spoilt (q : Ip) (hq : q.Own) (j : Nat) (hj : j < 20) (a x : UInt8) (ha : q.bs[j]? = some a) (hx : x ≠ a) (v : Value) (w : World) (hr : Rd w v (q.bs.set j x)) :
    Calls Tryd.prog 6 #[v] w fun e w' => ∃ n l, VErr n l w e w' := by
  have hl : (q.bs.set j x).length = q.bs.length := List.length_set
  obtain ⟨h, r, hh, e⟩ := hd_split (q.bs.set j x) (by rw [hl]; exact q.bs_ge)
  have e1 : q.bs.set j x = (q.hd q.sum).bs.set j x ++ q.b := List.set_append_left j x (by rw [Hd.bs_len]; exact hj)
  have e2 : (q.hd q.sum).bs.set j x = h.bs := (List.append_inj (e1.symm.trans e) (by rw [List.length_set, Hd.bs_len, Hd.bs_len])).1
  have ha' : (q.hd q.sum).bs[j]? = some a := by
    unfold Ip.bs at ha
    rwa [List.getElem?_append_left (by rw [Hd.bs_len]; exact hj)] at ha
  have e4 : ck (q.hd q.sum).bs = 0 := (hd_ck (q.hd q.sum) rfl).2 trivial
  have e5 : ck h.bs ≠ 0 := by rw [← e2]; exact ck_turned e4 ha' hx
  have hlen := hq.bs_le
  rw [e] at hr hl
  refine (vParse_any h hh r v w hr (by omega)).mono ?_
  rintro e w' (⟨_, h⟩ | ⟨hc, _⟩)
  · exact ⟨_, _, h⟩
  · unfold Hd.code at hc
    rw [if_pos e5] at hc
    split at hc
    · exact absurd hc ‹_›
    · cases hc
/-- Xor with a byte. -/
theorem byte_xor (a : UInt8) (n : Nat) (hn : n < 256) : ∃ x : UInt8, bits .xor .u8 (a.toNat : Int) (n : Int) = (x.toNat : Int) ∧ (x = a ↔ n = 0) := by
  have ha := a.toNat_lt
  have hx : a.toNat ^^^ n < 256 := Nat.xor_lt_two_pow (n := 8) ha hn
  have hv : (UInt8.ofNat (a.toNat ^^^ n)).toNat = a.toNat ^^^ n := by rw [ofNat_lt]; exact Nat.mod_eq_of_lt hx
  refine ⟨UInt8.ofNat (a.toNat ^^^ n), ?_, ?_⟩
  · rw [u8_xor_nat a.toNat n ha hn, hv]
  · rw [← UInt8.toNat_inj, hv]
    constructor
    · intro h
      have h2 : a.toNat ^^^ (a.toNat ^^^ n) = a.toNat ^^^ a.toNat := by rw [h]
      rwa [← Nat.xor_assoc, Nat.xor_self, Nat.zero_xor] at h2
    · rintro rfl
      exact Nat.xor_zero _
end Go.Proofs.YtdhndahoaobhpaaDoor
