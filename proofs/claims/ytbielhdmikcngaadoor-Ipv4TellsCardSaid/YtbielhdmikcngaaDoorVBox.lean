/-
  What is proved: a packet's box that is written over as a whole; right packets with the same bytes are the same.
  Conditions: the packets' numbers fit their types.
-/
import Derived.Test.YtbielhdmikcngaaDoorVOwn
namespace Go.Proofs.YtbielhdmikcngaaDoor
open Go.RowKit

section
variable {w W : World} {n g : Nat} {p : Ip} {v : Value}
theorem IpAt.store (h : IpAt W n p v) (q : Ip) (u : Value) : IpAt (W.setRow n #[.int .u8 q.tos, .int .u16 q.id, .bool q.df, .bool q.mf, .int .i64 q.off, .int .u8 q.ttl, .int .u8 q.proto, .int .u32 q.src, .int .u32 q.dst, u]) n q u := setRow_heap _ _ _ _ _ _ h
theorem IpAt.beside (h : IpAt W n p v) (hne : n ≠ g) (cs : Array Value) : IpAt (W.setRow g cs) n p v := (setRow_other W g cs hne).trans h
theorem below_row (h : Below w.heap.size w W) (hg : w.heap.size ≤ g) (cs : Array Value) : Below w.heap.size w (W.setRow g cs) :=
  ((Fr.of_below (p := fun _ => False) h).row hg cs).below (Nat.le_refl _) (fun _ h => h.elim)
end
theorem ipLit_one (q : Ip) (A : Option Addr) (n c : Nat) : (#[.int .u8 q.tos, .int .u16 q.id, .bool q.df, .bool q.mf, .int .i64 q.off, .int .u8 q.ttl, .int .u8 q.proto, .int .u32 q.src, .int .u32 q.dst, .slice A n c] : Array Value).all (·.oneCell') = true := ipRow_one q A n c
theorem ofNat_inj {a b : Nat} (h : UInt8.ofNat a = UInt8.ofNat b) : a % 256 = b % 256 := by
  have := congrArg UInt8.toNat h
  rwa [ofNat_lt, ofNat_lt] at this
theorem Hd.bs_inj {h k : Hd} (hh : h.In) (hk : k.In) (e : h.bs = k.bs) : h = k := by
  obtain ⟨a0, a1, a2, a3, a4, a5, a6, a7, a8, a9⟩ := h
  obtain ⟨b0, b1, b2, b3, b4, b5, b6, b7, b8, b9⟩ := k
  obtain ⟨p0, p1, p2, p3, p4, p5, p6, p7, p8, p9⟩ := hh
  obtain ⟨q0, q1, q2, q3, q4, q5, q6, q7, q8, q9⟩ := hk
  simp only at p0 p1 p2 p3 p4 p5 p6 p7 p8 p9 q0 q1 q2 q3 q4 q5 q6 q7 q8 q9
  simp only [Hd.bs, be2, be4, List.cons_append, List.nil_append, List.cons.injEq, and_true] at e
  obtain ⟨e0, e1, e2, e3, e4, e5, e6, e7, e8, e9, f0, f1, f2, f3, f4, f5, f6, f7, f8, f9⟩ := e
  have e0 := ofNat_inj e0
  have e1 := ofNat_inj e1
  have e2 := ofNat_inj e2
  have e3 := ofNat_inj e3
  have e4 := ofNat_inj e4
  have e5 := ofNat_inj e5
  have e6 := ofNat_inj e6
  have e7 := ofNat_inj e7
  have e8 := ofNat_inj e8
  have e9 := ofNat_inj e9
  have f0 := ofNat_inj f0
  have f1 := ofNat_inj f1
  have f2 := ofNat_inj f2
  have f3 := ofNat_inj f3
  have f4 := ofNat_inj f4
  have f5 := ofNat_inj f5
  have f6 := ofNat_inj f6
  have f7 := ofNat_inj f7
  have f8 := ofNat_inj f8
  have f9 := ofNat_inj f9
  obtain rfl : a0 = b0 := by omega
  obtain rfl : a1 = b1 := by omega
  obtain rfl : a2 = b2 := by omega
  obtain rfl : a3 = b3 := by omega
  obtain rfl : a4 = b4 := by omega
  obtain rfl : a5 = b5 := by omega
  obtain rfl : a6 = b6 := by omega
  obtain rfl : a7 = b7 := by omega
  obtain rfl : a8 = b8 := by omega
  obtain rfl : a9 = b9 := by omega
  rfl
theorem Ip.bs_inj {p q : Ip} (hp : p.In) (hq : q.In) (bp : p.bad = 0) (bq : q.bad = 0) (e : p.bs = q.bs) : p = q := by
  unfold Ip.bs at e
  obtain ⟨e1, e2⟩ := List.append_inj e (by rw [Hd.bs_len, Hd.bs_len])
  have e3 := Hd.bs_inj (Ip.hd_in hp bp (sum_lt p)) (Ip.hd_in hq bq (sum_lt q)) e1
  rw [← Ip.back bp p.sum, ← Ip.back bq q.sum, e3, e2]
/-- Texts of the bytes of right packets. -/
theorem txt_same {p q : Ip} (hp : p.In) (hq : q.In) (bp : p.bad = 0) (bq : q.bad = 0) : ((txt p.bs).toList == (txt q.bs).toList) = ipB p q := by
  rw [vtxt_list, vtxt_list]
  by_cases h : p = q
  · subst h
    rw [ipB_same]
    simp
  · have h1 : ipB p q = false := by
      rw [← Bool.not_eq_true, ipB_iff]
      exact h
    rw [h1]
    simpa using fun e => h (Ip.bs_inj hp hq bp bq e)
/-- 'same' in the spelling of the laws' walks. -/
theorem same_lit (p q : Ip) (hp : p.In) (hq : q.In) (A B : Option Addr) (c d : Nat) (w : World) (ha : Rd w (.slice A p.b.length c) p.b) (hb : Rd w (.slice B q.b.length d) q.b) :
    Calls Tryd.prog 14 #[.agg #[.int .u8 p.tos, .int .u16 p.id, .bool p.df, .bool p.mf, .int .i64 p.off, .int .u8 p.ttl, .int .u8 p.proto, .int .u32 p.src, .int .u32 p.dst, .slice A p.b.length c],
      .agg #[.int .u8 q.tos, .int .u16 q.id, .bool q.df, .bool q.mf, .int .i64 q.off, .int .u8 q.ttl, .int .u8 q.proto, .int .u32 q.src, .int .u32 q.dst, .slice B q.b.length d]] w
      fun e w' => e = .returned (.bool (ipB p q)) ∧ Below w.heap.size w w' := same_any p q hp hq A B c d w ha hb
end Go.Proofs.YtbielhdmikcngaaDoor
