/-
  What is proved: the law VxlanAgain answers true for any bytes and any others in the place of those that mean nothing, and leaves all older memory as it was.
  Conditions: the slice is of fewer than 2^63 bytes.
-/
import Derived.Test.YtnjohgfhagoppaaLawKxCuts
namespace Go.Proofs.Ytnjohgfhagoppaa
open Go.RowKit

/-- Bytes out of which a frame comes. -/
theorem xcode_zero {bs : List UInt8} (h : xCode bs = 0) : ∃ b0 b1 b2 b3 b4 b5 b6 b7 r, bs = b0 :: b1 :: b2 :: b3 :: b4 :: b5 :: b6 :: b7 :: r ∧ b0.toNat / 8 % 2 = 1 ∧ 14 ≤ r.length ∧ r.length ≤ 9000 := by
  unfold xCode at h
  by_cases h1 : bs.length < 8
  · rw [if_pos h1] at h; cases h
  · rw [if_neg h1] at h
    obtain ⟨b0, b1, b2, b3, b4, b5, b6, b7, r, rfl⟩ := eight (by omega : 8 ≤ bs.length)
    have hrl : (b0 :: b1 :: b2 :: b3 :: b4 :: b5 :: b6 :: b7 :: r).length - 8 = r.length := by simp
    have hbit : xBit (b0 :: b1 :: b2 :: b3 :: b4 :: b5 :: b6 :: b7 :: r) = (b0.toNat / 8 % 2 == 1) := rfl
    rw [hrl, hbit] at h
    by_cases h2 : b0.toNat / 8 % 2 = 1
    · rw [if_neg (by simp [h2])] at h
      unfold frameWrong at h
      by_cases k1 : r.length < 14
      · rw [if_pos k1] at h; cases h
      · rw [if_neg k1] at h
        by_cases k2 : 9000 < r.length
        · rw [if_pos k2] at h; cases h
        · exact ⟨b0, b1, b2, b3, b4, b5, b6, b7, r, rfl, h2, by omega, by omega⟩
    · rw [if_pos (by simp [h2])] at h; cases h
theorem frame_fine {n : Nat} (h1 : 14 ≤ n) (h2 : n ≤ 9000) : frameWrong n = 0 := by unfold frameWrong; rw [if_neg (by omega), if_neg (by omega)]
theorem or8 (n : Nat) (hn : n < 256) : ∃ x : UInt8, bits .or .u8 (n : Int) 8 = (x.toNat : Int) ∧ x.toNat / 8 % 2 = 1 := by
  have hl : n ||| 8 < 256 := Nat.or_lt_two_pow (n := 8) hn (by decide)
  refine ⟨UInt8.ofNat (n ||| 8), ?_, ?_⟩
  · rw [show (8 : Int) = ((8 : Nat) : Int) from rfl, u8_or_nat n 8 hn (by decide), ofNat_lt, Nat.mod_eq_of_lt hl]
  · rw [ofNat_lt, Nat.mod_eq_of_lt hl]
    have h1 : (n ||| 8).testBit 3 = true := by rw [Nat.testBit_or, show (8 : Nat).testBit 3 = true by decide, Bool.or_true]
    rw [Nat.testBit_eq_decide_div_mod_eq] at h1
    simpa using h1
theorem byteOf (n : Nat) (hn : n < 256) : ∃ x : UInt8, (n : Int) = (x.toNat : Int) := ⟨UInt8.ofNat n, by rw [ofNat_lt, Nat.mod_eq_of_lt hn]⟩
set_option maxRecDepth 100000 in
set_option maxHeartbeats 4000000 in
theorem kxAgain_any (A : Option Addr) (c : Nat) (l0 : List UInt8) (n1 n2 n3 : Nat) (w : World) (hc : c ≤ 9223372036854775807) (hr0 : Rd w (.slice A l0.length c) l0) (hn1 : n1 < 256) (hn2 : n2 < 256) (hn3 : n3 < 256) :
    Calls Try.prog 4 #[.slice A l0.length c, .int .u8 (n1 : Int), .int .u8 (n2 : Int), .int .u8 (n3 : Int)] w fun e w' => e = .returned (.bool true) ∧ Below w.heap.size w w' := by
  have hlc := hr0.cap_le
  obtain ⟨l, hl, hr⟩ := front10 l0 hr0
  have HF : Hid (∀ W, _) := fun W => kxfew_any A l0.length c W hc hlc l.length hl
  have hl2 : l.length ≤ 10000 := by omega
  have HR := Lib.hid hr
  obtain ⟨x0, hx0, hx0b⟩ := or8 n1 hn1
  obtain ⟨x2, hx2⟩ := byteOf n2 hn2
  obtain ⟨x7, hx7⟩ := byteOf n3 hn3
  rw [hx2, hx7]
  have HX0 := Lib.hid hx0
  have HXB := Lib.hid hx0b
  clear hl hr hr0 hlc hx2 hx7 hn1 hn2 hn3 hx0 hx0b
  generalize (n1 : Int) = z1 at *
  go_enter Try.func4, Try.ntmps4
  go_wp2_with fail
  refine (kxShown_any w).mono ?_
  rintro e w1 ⟨rfl, hb1⟩
  obtain ⟨g, gc, w2, hrun, hm, _, _, _⟩ := (Mine.first (Below.refl w1.heap.size w1)).append l (.slice A l.length c) ((HR.out.below hb1).below (below_al (Below.refl _ _) _)) (by simp; omega)
  rw [List.nil_append] at hrun hm
  have HB2 := Lib.hid (below_to hb1 hm.old hb1.size)
  have HM2 := Lib.hid hm
  have HS1 : Hid (w.heap.size ≤ w1.heap.size) := hb1.size
  have ER := Lib.hid hrun
  clear hb1 hrun hm HR
  go_upto_region 2 with fail
  go_wp2_with (fail)
  refine (HF.out _).mono ?_
  rintro e w' ⟨rfl, rfl⟩
  clear HF
  go_upto_region 3 with (at_builtin; refine wpList_append_eq rfl (.tmp 22) (.tmp 24) 23 rfl _ _ rfl rfl _ _ ER.out ?_)
  clear ER
  go_wp2_with fail
  refine (xdecap_any HM2.out.rd (by omega)).mono ?_
  rintro e w3 (⟨_, b, rfl, _, hb3⟩ | ⟨hcode, g3, he, hn3, ho3, hb3⟩)
  · have HB3 := Lib.hid (below_to HB2.out hb3 HB2.out.size)
    clear hb3
    go_wp2_with fail
    go_ret
    exact ⟨rfl, HB3.out⟩
  · obtain ⟨b0, b1, b2, b3, b4, b5, b6, b7, r, rfl, hbit, hr1, hr2⟩ := xcode_zero hcode
    have he' : e = .returned (.tuple #[.int .u32 (((b4.toNat * 256 + b5.toNat) * 256 + b6.toNat : Nat) : Int), .slice (some ⟨g3, 0, none⟩) r.length r.length, .nilIface]) := he
    subst he'
    have ho3' : w3.heap[g3]? = some (bytesObj r) := ho3
    obtain ⟨L, hL⟩ : ∃ L, L = (b0 :: b1 :: b2 :: b3 :: b4 :: b5 :: b6 :: b7 :: r).length := ⟨_, rfl⟩
    have hL22 : L = r.length + 8 := by rw [hL]; simp
    have HM3 := Lib.hid (HM2.out.below hb3)
    have HB3 := Lib.hid (below_to HB2.out hb3 HB2.out.size)
    have HP3 := Lib.hid ho3'
    have HNE : Hid (g3 ≠ g) := by have h1 := HM2.out.row.lt; show _ ≠ _; omega
    have HRL : Hid (14 ≤ r.length ∧ r.length ≤ 9000) := ⟨hr1, hr2⟩
    obtain ⟨id, hid⟩ : ∃ id, id = (b4.toNat * 256 + b5.toNat) * 256 + b6.toNat := ⟨_, rfl⟩
    have hidl : id < 16777216 := by
      have l4 := b4.toNat_lt
      have l5 := b5.toNat_lt
      have l6 := b6.toNat_lt
      omega
    have HID := Lib.hid (And.intro hid hidl)
    rw [← hid, ← hL]
    have HLL := Lib.hid hL
    have hle : (xHd id ++ r).length = r.length + 8 := by rw [List.length_append, xHd_len]; omega
    have HLE := Lib.hid hle
    have q0 := HM3.out.cell 0 b0 rfl
    have z0 := HM3.out.free 0
    have hx := HX0.out
    clear hcode hn3 ho3 hb3 he hbit HM2 HB2 hid hidl hL ho3' hr1 hr2 hle hl2
    generalize hid : (id : Int) = z at *
    have HZ := Lib.hid hid
    clear hid
    go_upto_region 7 with fail
    clear q0 z0 hx
    have HM4 : Hid (Mine w1 (w3.setCell ⟨g, 0, none⟩ (.int .u8 (x0.toNat : Int))) g gc (x0 :: b1 :: b2 :: b3 :: b4 :: b5 :: b6 :: b7 :: r)) := HM3.out.set 0 x0
    have HB4 : Hid (Below w.heap.size w (w3.setCell ⟨g, 0, none⟩ (.int .u8 (x0.toNat : Int)))) := HB3.out.setCell (by have := HM3.out.new; have := HS1.out; show w.heap.size ≤ g; omega) _
    have HP4 : Hid ((w3.setCell ⟨g, 0, none⟩ (.int .u8 (x0.toNat : Int))).heap[g3]? = some (bytesObj r)) := (Below.heap_setCell _ _ _ _ HNE.out).trans HP3.out
    generalize w3.setCell ⟨g, 0, none⟩ (.int .u8 (x0.toNat : Int)) = w4 at *
    clear HM3 HB3 HP3
    have q2 := HM4.out.cell 2 b2 rfl
    have z2 := HM4.out.free 2
    go_upto_region 8 with fail
    clear q2 z2
    have HM5 : Hid (Mine w1 (w4.setCell ⟨g, 2, none⟩ (.int .u8 (x2.toNat : Int))) g gc (x0 :: b1 :: x2 :: b3 :: b4 :: b5 :: b6 :: b7 :: r)) := HM4.out.set 2 x2
    have HB5 : Hid (Below w.heap.size w (w4.setCell ⟨g, 2, none⟩ (.int .u8 (x2.toNat : Int)))) := HB4.out.setCell (by have := HM4.out.new; have := HS1.out; show w.heap.size ≤ g; omega) _
    have HP5 : Hid ((w4.setCell ⟨g, 2, none⟩ (.int .u8 (x2.toNat : Int))).heap[g3]? = some (bytesObj r)) := (Below.heap_setCell _ _ _ _ HNE.out).trans HP4.out
    generalize w4.setCell ⟨g, 2, none⟩ (.int .u8 (x2.toNat : Int)) = w5 at *
    clear HM4 HB4 HP4
    have q7 := HM5.out.cell 7 b7 rfl
    have z7 := HM5.out.free 7
    go_upto_region 9 with fail
    clear q7 z7
    have HM6 : Hid (Mine w1 (w5.setCell ⟨g, 7, none⟩ (.int .u8 (x7.toNat : Int))) g gc (x0 :: b1 :: x2 :: b3 :: b4 :: b5 :: b6 :: x7 :: r)) := HM5.out.set 7 x7
    have HB6 : Hid (Below w.heap.size w (w5.setCell ⟨g, 7, none⟩ (.int .u8 (x7.toNat : Int)))) := HB5.out.setCell (by have := HM5.out.new; have := HS1.out; show w.heap.size ≤ g; omega) _
    have HP6 : Hid ((w5.setCell ⟨g, 7, none⟩ (.int .u8 (x7.toNat : Int))).heap[g3]? = some (bytesObj r)) := (Below.heap_setCell _ _ _ _ HNE.out).trans HP5.out
    generalize w5.setCell ⟨g, 7, none⟩ (.int .u8 (x7.toNat : Int)) = w6 at *
    clear HM5 HB5 HP5
    have hd6 := HM6.out.rd
    rw [show (x0 :: b1 :: x2 :: b3 :: b4 :: b5 :: b6 :: x7 :: r).length = r.length + 8 by simp] at hd6
    have X6 := Lib.hid (xdecap_ok hd6 (by have := HRL.out; omega) HXB.out (frame_fine HRL.out.1 HRL.out.2))
    rw [← HID.out.1] at X6
    unfold XGood at X6
    rw [HZ.out] at X6
    clear hd6 HM6
    go_wp2_with fail
    refine X6.out.mono ?_
    rintro e w7 ⟨g7, rfl, _, ho7, hb7⟩
    have HB7 := Lib.hid (below_to HB6.out hb7 HB6.out.size)
    have HR7 := Lib.hid (show Rd w7 _ r from Rd.of_obj (c := r.length) ho7 (Nat.le_refl _))
    have HQ7 := Lib.hid ((show Rd w6 _ r from Rd.of_obj (c := r.length) HP6.out (Nat.le_refl _)).below hb7)
    have HE := Lib.hid (encap_ok id _ r.length r w7 HID.out.2 HQ7.out HRL.out.1 HRL.out.2)
    rw [HZ.out] at HE
    clear hb7 ho7 HB6 HP6 X6
    go_wp2_with fail
    refine HE.out.mono ?_
    rintro e w8 ⟨g8, he, _, ho8, hb8⟩
    rw [HLE.out] at he
    subst he
    have HB8 := Lib.hid (below_to HB7.out hb8 HB7.out.size)
    have HR8 := Lib.hid (HR7.out.below hb8)
    have HQ8 := Lib.hid (HQ7.out.below hb8)
    have hd8 : Rd w8 (.slice (some ⟨g8, 0, none⟩) (xHd id ++ r).length (xHd id ++ r).length) (xHd id ++ r) := Rd.of_obj ho8 (Nat.le_refl _)
    rw [HLE.out] at hd8
    have X8 := Lib.hid (xdecap_back id r HID.out.2 HRL.out.1 HRL.out.2 hd8)
    unfold XGood at X8
    rw [HZ.out] at X8
    clear hb8 ho8 hd8 HB7 HR7 HQ7 HE
    go_wp2_with fail
    refine X8.out.mono ?_
    rintro e w9 ⟨g9, rfl, _, ho9, hb9⟩
    have HB9 := Lib.hid (below_to HB8.out hb9 HB8.out.size)
    have v1 := convert_rd (HR8.out.below hb9)
    have v2 := convert_rd (HQ8.out.below hb9)
    have v3 := convert_rd (Rd.of_obj (c := r.length) ho9 (Nat.le_refl _))
    clear hb9 ho9 HB8 HR8 HQ8 X8
    go_wp2_with fail
    go_ret
    exact ⟨rfl, HB9.out⟩
end Go.Proofs.Ytnjohgfhagoppaa
