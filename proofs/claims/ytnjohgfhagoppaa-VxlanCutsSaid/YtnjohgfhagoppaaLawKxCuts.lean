/-
  What is proved: the law VxlanCuts answers true for any id, frame and place, and leaves all older memory as it was.
  Conditions: the slice is of fewer than 2^63 bytes.
-/
import Derived.Test.YtnjohgfhagoppaaLawKxBack
import Derived.BigQuiet
import Derived.Deep.QuietTactic
namespace Go.Proofs.Ytnjohgfhagoppaa
open Go.RowKit

theorem xlow (n : Nat) (hn : n < 4294967296) : bits .and .u32 (n : Int) 16777215 = ((n % 16777216 : Nat) : Int) := by
  rw [show (16777215 : Int) = ((16777215 : Nat) : Int) from rfl, u32_and_nat n 16777215 hn (by omega)]
  have h := Nat.and_two_pow_sub_one_eq_mod n 24
  rw [show (2 : Nat) ^ 24 - 1 = 16777215 by decide, show (2 : Nat) ^ 24 = 16777216 by decide] at h
  rw [h]
theorem i64_fits (z : Int) (h1 : -9223372036854775808 ≤ z) (h2 : z ≤ 9223372036854775807) : IntKind.i64.wrap z = z := by
  have a : IntKind.i64.bits = 64 := rfl
  have b : IntKind.i64.signed = true := rfl
  simp only [IntKind.wrap, a, b]
  simp
  split <;> omega
theorem below_drawn {n k : Nat} {w W : World} (h : Below n w W) : Below n w (W.drewN k) := ⟨h.os, h.tape, h.output, h.size, h.block⟩
/-- What is cut off ahead of the frame's fourteenth byte. -/
theorem xcut_short (id k : Nat) (l : List UInt8) (_ : id < 16777216) (hk : k < 22) (hkl : k ≤ l.length + 8) : xCode ((xHd id ++ l).take k) = 2 := by
  have e : ((xHd id ++ l).take k).length = k := by rw [List.length_take, List.length_append, xHd_len]; omega
  unfold xCode
  rw [e]
  by_cases h8 : k < 8
  · rw [if_pos h8]
  · have hb : xBit ((xHd id ++ l).take k) = true := by
      unfold xBit
      rw [List.getD_eq_getElem?_getD, List.getElem?_take_of_lt (by omega)]
      show ((UInt8.ofNat (134217728 / 16777216)).toNat / 8 % 2 == 1) = true
      decide
    rw [if_neg h8, if_neg (by rw [hb]; decide)]
    unfold frameWrong
    rw [if_pos (by omega)]
theorem xcut_long (id k : Nat) (l : List UInt8) (hk : 8 ≤ k) : (xHd id ++ l).take k = xHd id ++ l.take (k - 8) := by
  rw [List.take_append, xHd_len, List.take_of_length_le (by rw [xHd_len]; exact hk)]
set_option maxRecDepth 100000 in
set_option maxHeartbeats 4000000 in
theorem kxCuts_any (id0 : Nat) (A : Option Addr) (c : Nat) (l0 : List UInt8) (at0 : Int) (w : World) (hid0 : id0 < 4294967296) (hc : c ≤ 9223372036854775807) (hr0 : Rd w (.slice A l0.length c) l0) :
    Calls Try.prog 6 #[.int .u32 (id0 : Int), .slice A l0.length c, .int .i64 at0] w fun e w' => e = .returned (.bool true) ∧ Below w.heap.size w w' := by
  have hlc := hr0.cap_le
  obtain ⟨l, hl, hr⟩ := front10 l0 hr0
  have HF : Hid (∀ W, _) := fun W => kxfew_any A l0.length c W hc hlc l.length hl
  have hl2 : l.length ≤ 10000 := by omega
  have HR := Lib.hid hr
  have hx := xlow id0 hid0
  obtain ⟨id, hid⟩ : ∃ id, id = id0 % 16777216 := ⟨_, rfl⟩
  rw [← hid] at hx
  have hidl : id < 16777216 := by omega
  clear hl hr hr0 hlc hid hid0
  generalize (id0 : Int) = z0 at *
  have HX := Lib.hid hx
  clear hx
  go_enter Try.func6, Try.ntmps6
  go_wp2_with fail
  refine (kxShown_any w).mono ?_
  rintro e w1 ⟨rfl, hb1⟩
  have HB1 := Lib.hid hb1
  have HR1 := Lib.hid (HR.out.below hb1)
  clear hb1 HR
  go_wp2_with fail
  refine (HF.out w1).mono ?_
  rintro e w' ⟨rfl, rfl⟩
  clear HF
  have HE := Lib.hid (encap_any id A c l w1 HR1.out)
  have HI : Hid (id < 16777216) := hidl
  clear hidl
  have hx := HX.out
  go_wp2_with fail
  refine HE.out.mono ?_
  rintro e w2 (⟨_, b, rfl, _, hb2⟩ | ⟨hcode, g, he, _, ho2, hb2⟩)
  · have HB2 := Lib.hid (below_to HB1.out hb2 HB1.out.size)
    clear hb2
    go_wp2_with fail
    go_ret
    exact ⟨rfl, HB2.out⟩
  · have hle : (xHd id ++ l).length = l.length + 8 := by rw [List.length_append, xHd_len]; omega
    have hfw : 14 ≤ l.length ∧ l.length ≤ 9000 := by
      unfold eCode at hcode
      rw [if_neg (by have := HI.out; omega)] at hcode
      unfold frameWrong at hcode
      by_cases k1 : l.length < 14
      · rw [if_pos k1] at hcode; cases hcode
      · rw [if_neg k1] at hcode
        by_cases k2 : 9000 < l.length
        · rw [if_pos k2] at hcode; cases hcode
        · omega
    rw [hle] at he
    subst he
    have HB2 := Lib.hid (below_to HB1.out hb2 HB1.out.size)
    have HR2 := Lib.hid (HR1.out.below hb2)
    have hd : Rd w2 (.slice (some ⟨g, 0, none⟩) (xHd id ++ l).length (xHd id ++ l).length) (xHd id ++ l) := Rd.of_obj ho2 (Nat.le_refl _)
    have HD2 := Lib.hid hd
    have HFW := Lib.hid hfw
    have HLE := Lib.hid hle
    have ha := and_low_i64 at0
    obtain ⟨p, hp⟩ : ∃ p : Nat, at0 % 65536 = (p : Int) := ⟨(at0 % 65536).toNat, by omega⟩
    rw [hp] at ha
    have hpl : p < 65536 := by omega
    obtain ⟨k, hkd⟩ : ∃ k, k = p % (l.length + 8 + 1) := ⟨_, rfl⟩
    have hkl : k ≤ l.length + 8 := by have := Nat.mod_lt p (show 0 < l.length + 8 + 1 by omega); omega
    have hk : ((p : Int) % ((l.length : Int) + 8 + 1)) = (k : Int) := by rw [hkd]; simp
    clear hkd hp hb2 ho2 hd HB1 HR1 HE hcode hle hfw
    by_cases hlt : k < 22
    · have hcut := Lib.hid (xcut_short id k l HI.out hlt hkl)
      have hrf := HD2.out.front (K := k) (by rw [HLE.out]; exact hkl)
      rw [HLE.out] at hrf
      have htl : ((xHd id ++ l).take k).length = k := by rw [List.length_take, HLE.out]; omega
      have HD3 : Hid (Calls Try.prog 14 #[.slice (some ⟨g, 0, none⟩) k (l.length + 8)] w2 fun e w' => ∃ ns, XBad 2 ns w2 e w') := by
        refine (xdecap_any hrf (by rw [htl]; omega)).mono ?_
        rintro e w' (⟨_, h⟩ | ⟨h, _⟩)
        · rw [hcut.out] at h; exact ⟨_, h⟩
        · rw [hcut.out] at h; cases h
      unfold XBad at HD3
      clear hcut hrf htl HD2 HR2
      go_wp2_with fail
      refine HD3.out.mono ?_
      rintro e w3 ⟨ns, b3, rfl, hc3, hb3⟩
      have HC3 := Lib.hid hc3
      have HB3 := Lib.hid (below_to HB2.out hb3 HB2.out.size)
      clear hc3 hb3
      go_wp2_with fail
      refine (is_any 2 2 _ _ _ HC3.out).mono ?_
      rintro e w' ⟨he, rfl⟩
      have he' : e = .returned (.bool true) := he
      subst he'
      clear he
      go_wp2_with fail
      go_ret
      exact ⟨rfl, HB3.out⟩
    · obtain ⟨m, rfl⟩ : ∃ m, k = m + 8 := ⟨k - 8, by omega⟩
      have hm : m ≤ l.length := by omega
      have hm14 : 14 ≤ m := by omega
      obtain ⟨cs, hcs⟩ : ∃ cs, cs = l.take m := ⟨_, rfl⟩
      have hcl : cs.length = m := by rw [hcs, List.length_take]; omega
      have hrf := HD2.out.front (K := m + 8) (by rw [HLE.out]; exact hkl)
      rw [HLE.out, xcut_long id (m + 8) l (by omega), Nat.add_sub_cancel, ← hcs] at hrf
      have HD3 := Lib.hid (xdecap_back id cs HI.out (by omega) (by have := HFW.out; omega) hrf)
      have hrc := HR2.out.front (K := m) hm
      rw [← hcs] at hrc
      have HRC := Lib.hid hrc
      subst hcl
      have hk' : ((p : Int) % ((l.length : Int) + 8 + 1)) = (cs.length : Int) + 8 := by rw [hk]; omega
      unfold XGood at HD3
      clear hk hrf hrc hcs HD2 HR2 HLE HFW hlt
      generalize (id : Int) = z at *
      go_wp2_with fail
      refine HD3.out.mono ?_
      rintro e w3 ⟨g3, rfl, _, ho3, hb3⟩
      have HB3 := Lib.hid (below_to HB2.out hb3 HB2.out.size)
      have HQ3 := Lib.hid (HRC.out.below hb3)
      have HO3 := Lib.hid (show Rd w3 _ cs from Rd.of_obj (c := cs.length) ho3 (Nat.le_refl _))
      clear hb3 ho3 HB2 HRC
      go_wp2_with fail
      have v1 : ∀ k, (convert 23 9 (.slice (some ⟨g3, 0, none⟩) cs.length cs.length)).run Try.prog (w3.drewN k) = .ok (.string (txt cs)) (w3.drewN k) := fun k => convert_rd (HO3.out.below ⟨rfl, rfl, rfl, Nat.le_refl _, fun _ _ => rfl⟩)
      have v2 : ∀ k, (convert 23 9 (.slice A cs.length c)).run Try.prog (w3.drewN k) = .ok (.string (txt cs)) (w3.drewN k) := fun k => convert_rd (HQ3.out.below ⟨rfl, rfl, rfl, Nat.le_refl _, fun _ _ => rfl⟩)
      have s1 : IntKind.i64.wrap ((cs.length : Int) + 8 - 8) = (cs.length : Int) := by rw [i64_fits _ (by omega) (by omega)]; omega
      have s2 : IntKind.i64.wrap (cs.length : Int) = (cs.length : Int) := i64_fits _ (by omega) (by omega)
      have hcc : cs.length ≤ c := HQ3.out.cap_le
      go_quiet (fail)
      go_wp2_with fail
      go_ret
      exact ⟨rfl, below_drawn HB3.out⟩
end Go.Proofs.Ytnjohgfhagoppaa
