/-
  What is proved: vxlan.Decap and vxlan.Encap by contract, with all of their outcomes.
  Conditions: the bytes are fewer than 2^39.
-/
import Derived.Test.YtnjohgfhagoppaaDoorKxDo
namespace Go.Proofs.YtnjohgfhagoppaaDoor
open Go.RowKit

/-- Nine and more bytes, one by one. -/
theorem eight {bs : List UInt8} (h : 8 ≤ bs.length) : ∃ b0 b1 b2 b3 b4 b5 b6 b7 r, bs = b0 :: b1 :: b2 :: b3 :: b4 :: b5 :: b6 :: b7 :: r := by
  match bs, h with
  | b0 :: b1 :: b2 :: b3 :: b4 :: b5 :: b6 :: b7 :: r, _ => exact ⟨b0, b1, b2, b3, b4, b5, b6, b7, r, rfl⟩
theorem four {bs : List UInt8} (h : 4 ≤ bs.length) : ∃ b0 b1 b2 b3 r, bs = b0 :: b1 :: b2 :: b3 :: r := by
  match bs, h with
  | b0 :: b1 :: b2 :: b3 :: r, _ => exact ⟨b0, b1, b2, b3, r, rfl⟩
set_option maxHeartbeats 2000000 in
theorem xdecap_frame {v : Value} {b0 b1 b2 b3 b4 b5 b6 b7 : UInt8} {r : List UInt8} {w : World} (hr : Rd w v (b0 :: b1 :: b2 :: b3 :: b4 :: b5 :: b6 :: b7 :: r)) (hL : r.length ≤ 549755813888) (hb : b0.toNat / 8 % 2 = 1) (hw : frameWrong r.length ≠ 0) :
    Calls Tryd.prog 10 #[v] w (XBad (frameWrong r.length : Nat) [vxWord] w) := by
  have HR := Lib.hid (Read_facts v _ w hr (by simp; omega))
  have HL := Lib.hid hL
  have HB := Lib.hid hb
  have HW := Lib.hid hw
  clear hr hL hb hw
  unfold XBad vxWord
  go_enter Tryd.func10, Tryd.ntmps10
  go_wp2_with fail
  refine HR.out.mono ?_
  rintro e w1 ⟨b, rfl, hb, hr1, hB1⟩
  have H1 := Lib.hid (And.intro hb (And.intro hr1 hB1))
  clear hb hr1 hB1
  go_wp2_with fail
  refine (xhead_ok _ b0 b1 b2 b3 b4 b5 b6 b7 r _ H1.out.2.1 (by have := HL.out; omega) HB.out).mono ?_
  rintro e w2 ⟨rfl, hr2, hf⟩
  have H2 := Lib.hid (And.intro hr2 (below_to H1.out.2.2 (hf.below (B := w.heap.size) H1.out.2.2.size (fun x hx => by subst hx; exact H1.out.1)) (Nat.le_refl _)))
  clear hr2 hf
  go_wp2_with fail
  refine (Rest_any _ r w2 H2.out.1 (by have := HL.out; omega)).mono ?_
  rintro e w3 ⟨rfl, ht⟩
  have H3 := Lib.hid (below_to H2.out.2 (ht.fr.below (B := w.heap.size) H2.out.2.size (fun x hx => by subst hx; exact H1.out.1)) (Nat.le_refl _))
  clear ht
  go_wp2_with fail
  refine (xright_bad _ _ _ HW.out _).mono ?_
  rintro e w' ⟨rfl, rfl⟩
  go_wp2_with fail
  refine (wrap_any _ _ _ _).mono ?_
  rintro e w4 ⟨rfl, hw⟩
  have HC3 := Lib.hid (chain_wrapped ⟨#[118, 120, 108, 97, 110]⟩ (chain_errno w3 (frameWrong r.length : Nat)))
  rw [hw] at HC3
  have HB3 : Hid (Below w3.heap.size w3 w4) := by subst hw; exact (Below.refl _ _).alloc (Nat.le_refl _) _
  clear hw
  go_wp2_with fail
  go_ret3
  exact ⟨_, rfl, HC3.out, below_to H3.out HB3.out H3.out.size⟩
set_option maxHeartbeats 2000000 in
theorem xdecap_ok {v : Value} {b0 b1 b2 b3 b4 b5 b6 b7 : UInt8} {r : List UInt8} {w : World} (hr : Rd w v (b0 :: b1 :: b2 :: b3 :: b4 :: b5 :: b6 :: b7 :: r)) (hL : r.length ≤ 549755813888) (hb : b0.toNat / 8 % 2 = 1) (hw : frameWrong r.length = 0) :
    Calls Tryd.prog 10 #[v] w (XGood ((b4.toNat * 256 + b5.toNat) * 256 + b6.toNat) r w) := by
  have HR := Lib.hid (Read_facts v _ w hr (by simp; omega))
  have HL := Lib.hid hL
  have HB := Lib.hid hb
  have HW : Hid (14 ≤ r.length ∧ r.length ≤ 9000) := by
    unfold frameWrong at hw
    show _ ∧ _
    by_cases h1 : r.length < 14
    · rw [if_pos h1] at hw; cases hw
    · rw [if_neg h1] at hw
      by_cases h2 : 9000 < r.length
      · rw [if_pos h2] at hw; cases hw
      · omega
  have HI : Hid ((((b4.toNat : Int) * 256 + b5.toNat) * 256 + b6.toNat) = (((b4.toNat * 256 + b5.toNat) * 256 + b6.toNat : Nat) : Int)) := by show _ = _; omega
  clear hr hL hb hw
  unfold XGood
  rw [← HI.out]
  generalize (((b4.toNat : Int) * 256 + b5.toNat) * 256 + b6.toNat) = X at *
  go_enter Tryd.func10, Tryd.ntmps10
  go_wp2_with fail
  refine HR.out.mono ?_
  rintro e w1 ⟨b, rfl, hb, hr1, hB1⟩
  have H1 := Lib.hid (And.intro hb (And.intro hr1 hB1))
  clear hb hr1 hB1
  go_wp2_with fail
  refine (xhead_ok _ b0 b1 b2 b3 b4 b5 b6 b7 r _ H1.out.2.1 (by have := HL.out; omega) HB.out).mono ?_
  rintro e w2 ⟨he, hr2, hf⟩
  rw [show (((b4.toNat : Int) * 256 + b5.toNat) * 256 + b6.toNat) = X by rw [HI.out]; omega] at he
  subst he
  have H2 := Lib.hid (And.intro hr2 (below_to H1.out.2.2 (hf.below (B := w.heap.size) H1.out.2.2.size (fun x hx => by subst hx; exact H1.out.1)) (Nat.le_refl _)))
  clear hr2 hf
  go_wp2_with fail
  refine (Rest_any _ r w2 H2.out.1 (by have := HL.out; omega)).mono ?_
  rintro e w3 ⟨rfl, ht⟩
  have H3 := Lib.hid (And.intro ht.part (below_to H2.out.2 (ht.fr.below (B := w.heap.size) H2.out.2.size (fun x hx => by subst hx; exact H1.out.1)) (Nat.le_refl _)))
  clear ht
  go_wp2_with fail
  refine (xright_ok _ _ _ HW.out.1 HW.out.2 _).mono ?_
  rintro e w' ⟨rfl, rfl⟩
  go_wp2_with fail
  go_ret3
  exact ⟨_, rfl, H2.out.2.size, by rw [H3.out.1, List.take_length], H3.out.2⟩

/-- What Decap tells of bytes: 0 if a frame comes out. -/
def xCode (bs : List UInt8) : Nat := if bs.length < 8 then 2 else if xBit bs = false then 3 else frameWrong (bs.length - 8)
def xNames (bs : List UInt8) : List ByteArray := if bs.length < 8 then [vxWord, octetsWord] else [vxWord]
theorem xdecap_any {v : Value} {bs : List UInt8} {w : World} (hr : Rd w v bs) (hL : bs.length ≤ 549755813888) :
    Calls Tryd.prog 10 #[v] w fun e w' => (xCode bs ≠ 0 ∧ XBad (xCode bs : Nat) (xNames bs) w e w') ∨ (xCode bs = 0 ∧ XGood (xId bs) (bs.drop 8) w e w') := by
  unfold xCode xNames
  by_cases h1 : bs.length < 8
  · rw [if_pos h1, if_pos h1]
    refine (xdecap_nohead (n := 2) (l := [octetsWord]) hr (by omega) fun p W hp => ?_).mono fun e w' h => .inl ⟨by decide, h⟩
    by_cases h2 : bs.length < 4
    · exact xhead_short0 p bs W hp h2
    · obtain ⟨b0, b1, b2, b3, r, rfl⟩ := four (by omega : 4 ≤ bs.length)
      exact xhead_short4 p b0 b1 b2 b3 r W hp (by simp at h1; omega)
  · rw [if_neg h1, if_neg h1]
    obtain ⟨b0, b1, b2, b3, b4, b5, b6, b7, r, rfl⟩ := eight (by omega : 8 ≤ bs.length)
    have hrl : (b0 :: b1 :: b2 :: b3 :: b4 :: b5 :: b6 :: b7 :: r).length - 8 = r.length := by simp
    have hrL : r.length ≤ 549755813888 := by simp at hL; omega
    have hbit : xBit (b0 :: b1 :: b2 :: b3 :: b4 :: b5 :: b6 :: b7 :: r) = (b0.toNat / 8 % 2 == 1) := rfl
    rw [hrl, hbit]
    by_cases h2 : b0.toNat / 8 % 2 = 1
    · rw [if_neg (by simp [h2])]
      by_cases h3 : frameWrong r.length = 0
      · exact (xdecap_ok hr hrL h2 h3).mono fun e w' h => .inr ⟨h3, h⟩
      · exact (xdecap_frame hr hrL h2 h3).mono fun e w' h => .inl ⟨h3, h⟩
    · rw [if_pos (by simp [h2])]
      exact (xdecap_nohead (n := 3) (l := []) hr (by simp at hL ⊢; omega) fun p W hp => xhead_form p b0 b1 b2 b3 b4 b5 b6 b7 r W hp (by omega) h2).mono fun e w' h => .inl ⟨by decide, h⟩

/-- The header's bytes. -/
def xHd (id : Nat) : List UInt8 := be4 134217728 ++ be4 (id * 256)
theorem xHd_len (id : Nat) : (xHd id).length = 8 := rfl
/-- What Encap tells: 0 if it puts the frame in. -/
def eCode (id : Nat) (n : Nat) : Nat := if 16777216 ≤ id then 1 else frameWrong n
def EBad (n : Int) (w : World) (e : Ending) (w' : World) : Prop :=
  ∃ b, e = .returned (.tuple #[.slice none 0 0, .iface 92 (.pointer (some ⟨b, 0, none⟩))]) ∧ Chain w' n [vxWord] (.iface 92 (.pointer (some ⟨b, 0, none⟩))) ∧ Below w.heap.size w w'
def EGood (l : List UInt8) (w : World) (e : Ending) (w' : World) : Prop :=
  ∃ g, e = .returned (.tuple #[.slice (some ⟨g, 0, none⟩) l.length l.length, .nilIface]) ∧ w.heap.size ≤ g ∧ w'.heap[g]? = some (bytesObj l) ∧ Below w.heap.size w w'
theorem Wrt.u32i {w W : World} {q : Nat} {bs : List UInt8} (h : Wrt w q bs W) (n : Nat) (z : Int) (hz : z = (n : Int)) (hn : n < 4294967296) (hL : bs.length + 4 ≤ 1099511627776) :
    Calls Tryd.prog 30 #[.pointer (some ⟨q, 0, none⟩), .int .u32 z] W fun e w' => e = .returned (.pointer (some ⟨q, 0, none⟩)) ∧ Wrt w q (bs ++ be4 n) w' := hz ▸ h.u32 n hn hL
theorem encap_arg (id : Nat) (v : Value) (w : World) (h : 16777216 ≤ id) :
    Calls Tryd.prog 8 #[.int .u32 (id : Int), v] w (EBad 1 w) := by
  unfold EBad vxWord
  have h1 : (16777216 : Int) ≤ id := by omega
  go_enter Tryd.func8, Tryd.ntmps8
  go_wp2_with fail
  refine (wrap_any _ _ _ _).mono ?_
  rintro e w4 ⟨rfl, hw⟩
  have HC3 := Lib.hid (chain_wrapped ⟨#[118, 120, 108, 97, 110]⟩ (chain_errno w 1))
  rw [hw] at HC3
  have HB3 : Hid (Below w.heap.size w w4) := by subst hw; exact (Below.refl _ _).alloc (Nat.le_refl _) _
  clear hw
  go_wp2_with fail
  go_ret2
  exact ⟨_, rfl, HC3.out, HB3.out⟩
theorem encap_frame (id : Nat) (A : Option Addr) (n c : Nat) (w : World) (h : id < 16777216) (hn : frameWrong n ≠ 0) :
    Calls Tryd.prog 8 #[.int .u32 (id : Int), .slice A n c] w (EBad (frameWrong n : Nat) w) := by
  unfold EBad vxWord
  have h1 : ¬ (16777216 : Int) ≤ id := by omega
  have HX := Lib.hid (xright_bad A n c hn w)
  clear hn
  go_enter Tryd.func8, Tryd.ntmps8
  go_wp2_with fail
  refine HX.out.mono ?_
  rintro e w' ⟨rfl, rfl⟩
  go_wp2_with fail
  refine (wrap_any _ _ _ _).mono ?_
  rintro e w4 ⟨rfl, hw⟩
  have HC3 := Lib.hid (chain_wrapped ⟨#[118, 120, 108, 97, 110]⟩ (chain_errno w (frameWrong n : Nat)))
  rw [hw] at HC3
  have HB3 : Hid (Below w.heap.size w w4) := by subst hw; exact (Below.refl _ _).alloc (Nat.le_refl _) _
  clear hw
  go_wp2_with fail
  go_ret2
  exact ⟨_, rfl, HC3.out, HB3.out⟩
set_option maxHeartbeats 2000000 in
theorem encap_ok (id : Nat) (A : Option Addr) (c : Nat) (l : List UInt8) (w : World) (h : id < 16777216) (hr : Rd w (.slice A l.length c) l) (h1 : 14 ≤ l.length) (h2 : l.length ≤ 9000) :
    Calls Tryd.prog 8 #[.int .u32 (id : Int), .slice A l.length c] w (EGood (xHd id ++ l) w) := by
  unfold EGood
  have h3 : ¬ (16777216 : Int) ≤ id := by omega
  have HX := Lib.hid (xright_ok A l.length c h1 h2 w)
  have HN := Lib.hid (Wrt.new w)
  have HR := Lib.hid hr
  have HL := Lib.hid h2
  obtain ⟨z, hz⟩ : ∃ z : Int, z = ((id * 256 : Nat) : Int) := ⟨_, rfl⟩
  have hzz : IntKind.u32.wrap ((id : Int) * 256) = z := by
    subst hz
    have a1 : IntKind.u32.bits = 32 := rfl
    have a2 : IntKind.u32.signed = false := rfl
    simp [IntKind.wrap, a1, a2]
    omega
  have HZ : Hid (z = ((id * 256 : Nat) : Int) ∧ id * 256 < 4294967296) := ⟨hz, by omega⟩
  generalize hk : (xHd id ++ l).length = k
  have HK : Hid (([] ++ be4 134217728 ++ be4 (id * 256) ++ l).length = k) := hk
  clear hk
  clear hr h1 h2 h hz
  go_enter Tryd.func8, Tryd.ntmps8
  go_wp2_with fail
  refine HX.out.mono ?_
  rintro e w' ⟨rfl, rfl⟩
  go_wp2_with fail
  refine (HN.out.u32i 134217728 134217728 rfl (by decide) (by decide)).mono ?_
  rintro e w1 ⟨rfl, k1⟩
  have H1 := Lib.hid k1
  clear k1
  go_wp2_with fail
  refine (H1.out.u32i (id * 256) z HZ.out.1 HZ.out.2 (by decide)).mono ?_
  rintro e w2 ⟨rfl, k2⟩
  have H2 := Lib.hid k2
  clear k2
  go_wp2_with fail
  refine (H2.out.bytes l _ (HR.out.below H2.out.old) (by have := HL.out; simp [be4]; omega)).mono ?_
  rintro e w3 ⟨rfl, k3⟩
  have H3 := Lib.hid k3
  clear k3
  go_wp2_with fail
  refine (H3.out.finish (by have := HL.out; simp [be4]; omega)).mono ?_
  rintro e w4 ⟨b, he, k4, k5, k6⟩
  rw [HK.out] at he
  subst he
  have H4 := Lib.hid (And.intro k4 (And.intro k5 k6))
  clear k4 k5 k6
  go_wp2_with fail
  go_ret2
  exact ⟨b, rfl, H4.out.1, H4.out.2.1, H4.out.2.2⟩
theorem encap_any (id : Nat) (A : Option Addr) (c : Nat) (l : List UInt8) (w : World) (hr : Rd w (.slice A l.length c) l) :
    Calls Tryd.prog 8 #[.int .u32 (id : Int), .slice A l.length c] w fun e w' => (eCode id l.length ≠ 0 ∧ EBad (eCode id l.length : Nat) w e w') ∨ (eCode id l.length = 0 ∧ EGood (xHd id ++ l) w e w') := by
  unfold eCode
  by_cases h1 : 16777216 ≤ id
  · rw [if_pos h1]
    exact (encap_arg id _ w h1).mono fun e w' h => .inl ⟨by decide, h⟩
  · rw [if_neg h1]
    by_cases h2 : frameWrong l.length = 0
    · have h3 : 14 ≤ l.length ∧ l.length ≤ 9000 := by
        unfold frameWrong at h2
        by_cases k1 : l.length < 14
        · rw [if_pos k1] at h2; cases h2
        · rw [if_neg k1] at h2
          by_cases k2 : 9000 < l.length
          · rw [if_pos k2] at h2; cases h2
          · omega
      exact (encap_ok id A c l w (by omega) hr h3.1 h3.2).mono fun e w' h => .inr ⟨h2, h⟩
    · exact (encap_frame id A l.length c w (by omega) h2).mono fun e w' h => .inl ⟨h2, h⟩
theorem ofNat_toNat (n : Nat) (h : n < 256) : (UInt8.ofNat n).toNat = n := by rw [ofNat_lt]; omega
/-- What Encap put in comes out. -/
theorem xdecap_back (id : Nat) (l : List UInt8) {v : Value} {w : World} (hid : id < 16777216) (h1 : 14 ≤ l.length) (h2 : l.length ≤ 9000) (hr : Rd w v (xHd id ++ l)) :
    Calls Tryd.prog 10 #[v] w (XGood id l w) := by
  have e : ((UInt8.ofNat (id * 256 / 16777216)).toNat * 256 + (UInt8.ofNat (id * 256 / 65536)).toNat) * 256 + (UInt8.ofNat (id * 256 / 256)).toNat = id := by
    rw [ofNat_lt, ofNat_lt, ofNat_lt]
    omega
  have hw : frameWrong l.length = 0 := by unfold frameWrong; rw [if_neg (by omega), if_neg (by omega)]
  have h := xdecap_ok (b4 := UInt8.ofNat (id * 256 / 16777216)) (b5 := UInt8.ofNat (id * 256 / 65536)) (b6 := UInt8.ofNat (id * 256 / 256)) (b7 := UInt8.ofNat (id * 256)) (r := l) (w := w) (v := v) (b0 := 8) (b1 := 0) (b2 := 0) (b3 := 0) hr (by omega) (by decide) hw
  rw [e] at h
  exact h
end Go.Proofs.YtnjohgfhagoppaaDoor
