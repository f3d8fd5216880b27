/-
  What is proved: ipv4.Parse by contract; a head with its sum has the sum 0; each twenty bytes are a head's.
  Conditions: the bytes are fewer than 2^40.
-/
import Derived.Test.YtdmogppkambgaaaDoorVParse2
namespace Go.Proofs.YtdmogppkambgaaaDoor
open Go.RowKit

/-- An error of ipv4's own. -/
def VErr (n : Int) (l : List ByteArray) (w : World) (e : Ending) (w' : World) : Prop := ∃ b, e = .returned (.tuple #[noIpVal, .iface 106 (.pointer (some ⟨b, 0, none⟩))]) ∧ Chain w' n l (.iface 106 (.pointer (some ⟨b, 0, none⟩))) ∧ Below w.heap.size w w'
/-- What a head of 'n' bytes in all is told as: 0 if it is a packet's. -/
def Hd.code (h : Hd) (r : List UInt8) : Nat :=
  if h.wrong (20 + r.length) ≠ 0 then h.wrong (20 + r.length) else if ck h.bs ≠ 0 then 4 else if 32768 ≤ h.bits ∨ (h.ip (r.take (h.size - 20))).bad ≠ 0 then 3 else 0
/-- A head's weight, and its sum. -/
def Hd.rest (h : Hd) : Nat := wsum true ({ h with c := 0 } : Hd).bs
theorem be2_sum (n : Nat) (hn : n < 65536) : (UInt8.ofNat (n / 256)).toNat * 256 + (UInt8.ofNat n).toNat = n := by rw [ofNat_lt, ofNat_lt]; omega
theorem hd_sum (h : Hd) (hc : h.c < 65536) : wsum true h.bs = h.rest + h.c := by
  have e := be2_sum h.c hc
  have e0 : (UInt8.ofNat (0 / 256)).toNat * 256 + (UInt8.ofNat 0).toNat = 0 := rfl
  have k1 : wsum true h.bs = (UInt8.ofNat h.first).toNat * 256 + ((UInt8.ofNat h.tos).toNat + ((UInt8.ofNat (h.size / 256)).toNat * 256 + ((UInt8.ofNat h.size).toNat + ((UInt8.ofNat (h.id / 256)).toNat * 256 + ((UInt8.ofNat h.id).toNat + ((UInt8.ofNat (h.bits / 256)).toNat * 256 + ((UInt8.ofNat h.bits).toNat + ((UInt8.ofNat h.ttl).toNat * 256 + ((UInt8.ofNat h.proto).toNat +
    ((UInt8.ofNat (h.c / 256)).toNat * 256 + ((UInt8.ofNat h.c).toNat + wsum true (be4 h.src ++ be4 h.dst)))))))))))) := rfl
  have k2 : h.rest = (UInt8.ofNat h.first).toNat * 256 + ((UInt8.ofNat h.tos).toNat + ((UInt8.ofNat (h.size / 256)).toNat * 256 + ((UInt8.ofNat h.size).toNat + ((UInt8.ofNat (h.id / 256)).toNat * 256 + ((UInt8.ofNat h.id).toNat + ((UInt8.ofNat (h.bits / 256)).toNat * 256 + ((UInt8.ofNat h.bits).toNat + ((UInt8.ofNat h.ttl).toNat * 256 + ((UInt8.ofNat h.proto).toNat +
    ((UInt8.ofNat (0 / 256)).toNat * 256 + ((UInt8.ofNat 0).toNat + wsum true (be4 h.src ++ be4 h.dst)))))))))))) := rfl
  omega
theorem ck_zero (bs : List UInt8) : ck bs = 0 ↔ (wsum true bs % 65535 = 0 ∧ 0 < wsum true bs) := by
  unfold ck fold
  split <;> omega
theorem hd_ck (h : Hd) (hc : h.c = ck ({ h with c := 0 } : Hd).bs) : ck h.bs = 0 ↔ True := by
  have h1 := ck_le ({ h with c := 0 } : Hd).bs
  rw [ck_zero, hd_sum h (by omega), hc]
  unfold ck Hd.rest fold
  simp only [iff_true]
  split <;> omega
theorem sum_lt (p : Ip) : p.sum < 65536 := by have := ck_le (p.hd 0).bs; show ck _ < _; omega
theorem Ip.bits_lt {p : Ip} (h : p.bad = 0) : p.bits < 32768 := by
  have h1 := p.fl_lt
  obtain ⟨z1, z2, z3, _⟩ := bad_zero h
  unfold Ip.bits
  omega
theorem Ip.hd_in {p : Ip} (hp : p.In) (h : p.bad = 0) {c : Nat} (hc : c < 65536) : (p.hd c).In := by
  obtain ⟨z1, z2, z3, _⟩ := bad_zero h
  have := Ip.bits_lt h
  exact ⟨by show 69 < 256; decide, hp.tos, by show 20 + _ < _; omega, hp.id, by show p.bits < _; omega, hp.ttl, hp.proto, hc, hp.src, hp.dst⟩
theorem Ip.back {p : Ip} (h : p.bad = 0) (c : Nat) : (p.hd c).ip p.b = p := by
  obtain ⟨z1, z2, z3, _⟩ := bad_zero h
  obtain ⟨tos, id, df, mf, off, ttl, proto, src, dst, b⟩ := p
  simp only at z1 z2 z3
  unfold Hd.ip Hd.pk Ip.hd Ip.bits Ip.fl
  have hk : (off / 8).toNat < 8192 := by omega
  have ho : (((off / 8).toNat * 8 : Nat) : Int) = off := by omega
  generalize (off / 8).toNat = k at *
  have d1 : decide (((if df then 16384 else 0) + (if mf then 8192 else 0) + k) / 16384 % 2 = 1) = df := by cases df <;> cases mf <;> simp <;> omega
  have d2 : decide (((if df then 16384 else 0) + (if mf then 8192 else 0) + k) / 8192 % 2 = 1) = mf := by cases df <;> cases mf <;> simp <;> omega
  have d3 : ((((if df then 16384 else 0) + (if mf then 8192 else 0) + k) % 8192 * 8 : Nat) : Int) = off := by rw [← ho]; cases df <;> cases mf <;> simp <;> omega
  simp only [d1, d2, d3]
theorem Ip.code_back {p : Ip} (h : p.bad = 0) (more : List UInt8) : (p.hd p.sum).code (p.b ++ more) = 0 ∧ (p.hd p.sum).ip ((p.b ++ more).take ((p.hd p.sum).size - 20)) = p := by
  have e1 : (p.hd p.sum).size - 20 = p.b.length := by show 20 + _ - 20 = _; omega
  have e2 : (p.b ++ more).take ((p.hd p.sum).size - 20) = p.b := by rw [e1]; exact List.take_left' rfl
  have e3 : (p.hd p.sum).wrong (20 + (p.b ++ more).length) = 0 := by
    have a : (p.hd p.sum).first = 69 := rfl
    have b : (p.hd p.sum).size = 20 + p.b.length := rfl
    unfold Hd.wrong
    rw [a, b, List.length_append, if_neg (by decide), if_neg (by decide), if_neg (by decide), if_neg (by omega), if_neg (by omega)]
  have e4 : ck (p.hd p.sum).bs = 0 := (hd_ck (p.hd p.sum) rfl).2 trivial
  rw [e2, Ip.back h]
  refine ⟨?_, rfl⟩
  unfold Hd.code
  rw [e3, e4, e2, Ip.back h, h]
  have := Ip.bits_lt h
  have e5 : (p.hd p.sum).bits = p.bits := rfl
  rw [e5]
  simp
  omega
/-- Each twenty bytes are a head's. -/
theorem hd_split (l : List UInt8) (h : 20 ≤ l.length) : ∃ (hd : Hd) (r : List UInt8), hd.In ∧ l = hd.bs ++ r := by
  match l, h with
  | a0 :: a1 :: a2 :: a3 :: a4 :: a5 :: a6 :: a7 :: a8 :: a9 :: l2, h =>
   have h' : 10 ≤ l2.length := by simp at h; omega
   match l2, h' with
   | b0 :: b1 :: b2 :: b3 :: b4 :: b5 :: b6 :: b7 :: b8 :: b9 :: r, _ =>
    have lt : ∀ x : UInt8, x.toNat < 256 := fun x => x.toNat_lt
    have on : ∀ x : UInt8, UInt8.ofNat x.toNat = x := fun x => by apply UInt8.toNat_inj.1; rw [ofNat_lt]; exact Nat.mod_eq_of_lt (lt x)
    have e2 : ∀ x y : UInt8, be2 (x.toNat * 256 + y.toNat) = [x, y] := fun x y => by
      have hx := lt x
      have hy := lt y
      unfold be2
      rw [show (x.toNat * 256 + y.toNat) / 256 = x.toNat by omega, on x]
      congr 2
      apply UInt8.toNat_inj.1
      rw [ofNat_lt]
      omega
    have e4 : ∀ x y z t : UInt8, be4 (((x.toNat * 256 + y.toNat) * 256 + z.toNat) * 256 + t.toNat) = [x, y, z, t] := fun x y z t => by
      have hx := lt x
      have hy := lt y
      have hz := lt z
      have ht := lt t
      have ofe : ∀ (u : UInt8) (n : Nat), n % 256 = u.toNat → UInt8.ofNat n = u := fun u n h => by apply UInt8.toNat_inj.1; rw [ofNat_lt, h]
      unfold be4
      rw [ofe x _ (by omega), ofe y _ (by omega), ofe z _ (by omega), ofe t _ (by omega)]
    refine ⟨⟨a0.toNat, a1.toNat, a2.toNat * 256 + a3.toNat, a4.toNat * 256 + a5.toNat, a6.toNat * 256 + a7.toNat, a8.toNat, a9.toNat, b0.toNat * 256 + b1.toNat, ((b2.toNat * 256 + b3.toNat) * 256 + b4.toNat) * 256 + b5.toNat, ((b6.toNat * 256 + b7.toNat) * 256 + b8.toNat) * 256 + b9.toNat⟩, r, ?_, ?_⟩
    · have l0 := lt a0
      have l1 := lt a1
      have l2 := lt a2
      have l3 := lt a3
      have l4 := lt a4
      have l5 := lt a5
      have l6 := lt a6
      have l7 := lt a7
      have l8 := lt a8
      have l9 := lt a9
      have m0 := lt b0
      have m1 := lt b1
      have m2 := lt b2
      have m3 := lt b3
      have m4 := lt b4
      have m5 := lt b5
      have m6 := lt b6
      have m7 := lt b7
      have m8 := lt b8
      have m9 := lt b9
      refine ⟨?_, ?_, ?_, ?_, ?_, ?_, ?_, ?_, ?_, ?_⟩ <;> simp only <;> omega
    · unfold Hd.bs
      simp only [e2, e4, on]
      rfl
end Go.Proofs.YtdmogppkambgaaaDoor
