/-
  What is proved: the law VxlanBack answers true for any id and frame, and leaves all older memory as it was.
  Conditions: the slice is of fewer than 2^63 bytes.
-/
import Derived.Test.YtnjohgfhagoppaaKxShown
namespace Go.Proofs.Ytnjohgfhagoppaa
open Go.RowKit

theorem front10 {w : World} {A : Option Addr} {c : Nat} (l0 : List UInt8) (h : Rd w (.slice A l0.length c) l0) : ∃ l : List UInt8, l.length = min l0.length 10000 ∧ Rd w (.slice A l.length c) l := by
  have h1 := h.front (K := min l0.length 10000) (by omega)
  have e : (l0.take (min l0.length 10000)).length = min l0.length 10000 := by rw [List.length_take]; omega
  exact ⟨l0.take (min l0.length 10000), e, by rw [e]; exact h1⟩
set_option maxRecDepth 100000 in
set_option maxHeartbeats 4000000 in
theorem kxBack_any (id : Nat) (A : Option Addr) (c : Nat) (l0 : List UInt8) (w : World) (hid : id < 4294967296) (hc : c ≤ 9223372036854775807) (hr0 : Rd w (.slice A l0.length c) l0) :
    Calls Try.prog 3 #[.int .u32 (id : Int), .slice A l0.length c] w fun e w' => e = .returned (.bool true) ∧ Below w.heap.size w w' := by
  have hlc := hr0.cap_le
  obtain ⟨l, hl, hr⟩ := front10 l0 hr0
  have HF : Hid (∀ W, _) := fun W => kxfew_any A l0.length c W hc hlc l.length hl
  have hl2 : l.length ≤ 10000 := by omega
  have HR := Lib.hid hr
  clear hl hr hr0 hlc
  go_enter Try.func3, Try.ntmps3
  go_wp2_with fail
  refine (kxShown_any w).mono ?_
  rintro e w1 ⟨rfl, hb1⟩
  have HB1 := Lib.hid hb1
  have HR1 := Lib.hid (HR.out.below hb1)
  clear hb1 HR
  go_wp2_with fail
  refine (HF.out w1).mono ?_
  rintro e w' ⟨rfl, rfl⟩
  clear HF
  by_cases h1 : 16777216 ≤ id
  · have hB : decide ((16777216 : Int) ≤ (id : Int)) = true := decide_eq_true (by omega)
    have HE := Lib.hid (encap_arg id (.slice A l.length c) w1 h1)
    clear h1 hid
    generalize (id : Int) = z at *
    go_wp2_with fail
    refine HE.out.mono ?_
    rintro e w2 ⟨b, rfl, _, hb2⟩
    have HB2 := Lib.hid (below_to HB1.out hb2 HB1.out.size)
    clear hb2
    go_wp2_with fail
    go_ret
    exact ⟨rfl, HB2.out⟩
  · have hB : decide ((16777216 : Int) ≤ (id : Int)) = false := decide_eq_false (by omega)
    by_cases h2 : l.length < 14
    · have hw : frameWrong l.length ≠ 0 := by unfold frameWrong; rw [if_pos h2]; decide
      have HE := Lib.hid (encap_frame id A l.length c w1 (by omega) hw)
      clear hw h1 hid
      generalize (id : Int) = z at *
      go_wp2_with fail
      refine HE.out.mono ?_
      rintro e w2 ⟨b, rfl, _, hb2⟩
      have HB2 := Lib.hid (below_to HB1.out hb2 HB1.out.size)
      clear hb2
      go_wp2_with fail
      go_ret
      exact ⟨rfl, HB2.out⟩
    · by_cases h3 : 9000 < l.length
      · have hw : frameWrong l.length ≠ 0 := by unfold frameWrong; rw [if_neg h2, if_pos h3]; decide
        have HE := Lib.hid (encap_frame id A l.length c w1 (by omega) hw)
        clear hw h1 hid
        generalize (id : Int) = z at *
        go_wp2_with fail
        refine HE.out.mono ?_
        rintro e w2 ⟨b, rfl, _, hb2⟩
        have HB2 := Lib.hid (below_to HB1.out hb2 HB1.out.size)
        clear hb2
        go_wp2_with fail
        go_ret
        exact ⟨rfl, HB2.out⟩
      · have HE := Lib.hid (encap_ok id A c l w1 (by omega) HR1.out (by omega) (by omega))
        have hid2 : id < 16777216 := by omega
        have HID := Lib.hid hid2
        have hle : (xHd id ++ l).length = l.length + 8 := by rw [List.length_append, xHd_len]; omega
        have HLE := Lib.hid hle
        have HD : Hid (∀ v w, Rd w v (xHd id ++ l) → Calls Try.prog 14 #[v] w (XGood id l w)) := fun v w h => xdecap_back id l hid2 (by omega) (by omega) h
        unfold XGood at HD
        clear hid hid2 hle h1 HID
        generalize (id : Int) = z at *
        generalize xHd id ++ l = xl at *
        go_wp2_with fail
        refine HE.out.mono ?_
        rintro e w2 ⟨g, he, _, ho2, hb2⟩
        rw [HLE.out] at he
        subst he
        have HB2 := Lib.hid (below_to HB1.out hb2 HB1.out.size)
        have HR2 := Lib.hid (HR1.out.below hb2)
        have hd : Rd w2 (.slice (some ⟨g, 0, none⟩) xl.length xl.length) xl := Rd.of_obj ho2 (Nat.le_refl _)
        rw [HLE.out] at hd
        have HD2 := Lib.hid hd
        clear hb2 ho2 hd HB1 HR1 HE
        go_wp2_with fail
        refine (HD.out _ _ HD2.out).mono ?_
        rintro e w3 ⟨g3, rfl, _, ho3, hb3⟩
        have HB3 := Lib.hid (below_to HB2.out hb3 HB2.out.size)
        have cv1 := convert_rd (HR2.out.below hb3)
        have cv2 := convert_rd (Rd.of_obj (c := l.length) ho3 (Nat.le_refl _))
        clear hb3 ho3 HB2 HR2
        go_wp2_with fail
        go_ret
        exact ⟨rfl, HB3.out⟩
end Go.Proofs.Ytnjohgfhagoppaa
