/-
  What is proved: the law GeneveAgain answers true for any bytes, and leaves all older memory as it was.
  Conditions: the slice is of fewer than 2^63 bytes.
-/
import Derived.Test.YtnjohgfhagoppaaLawGvBack
namespace Go.Proofs.Ytnjohgfhagoppaa
open Go.RowKit

set_option maxRecDepth 100000 in
set_option maxHeartbeats 8000000 in
theorem gvAgain_any (A : Option Addr) (c : Nat) (l0 : List UInt8) (w : World) (hc : c ≤ 9223372036854775807) (hr0 : Rd w (.slice A l0.length c) l0) :
    Calls Try.prog 8 #[.slice A l0.length c] w fun e w' => e = .returned (.bool true) ∧ Below w.heap.size w w' := by
  have hlc := hr0.cap_le
  obtain ⟨l, hl, hr⟩ := gfront l0 hr0
  have HF : Hid (∀ W, _) := fun W => gfew_any A l0.length c W hc hlc l.length hl
  have hl2 : l.length ≤ 10000 := by omega
  have HR := Lib.hid hr
  clear hl hr hr0 hlc hc
  go_enter Try.func8, Try.ntmps8
  go_wp2_with fail
  refine (gvShown_any w).mono ?_
  rintro e w1 ⟨rfl, hb1⟩
  have HB1 := Lib.hid hb1
  have HD := Lib.hid (gdec_any (HR.out.below hb1) (by omega))
  clear hb1
  unfold GDec at HD
  go_wp2_with fail
  refine (HF.out w1).mono ?_
  rintro e w' ⟨rfl, rfl⟩
  go_wp2_with fail
  refine HD.out.mono ?_
  rintro e w2 (⟨_, b, rfl, _, hb2⟩ | ⟨hcode, sv, lx, g, rfl, hlx, hq, hg, hp, hxg, hsg, hb2⟩)
  · have HB2 := Lib.hid (below_to HB1.out hb2 HB1.out.size)
    clear hb2 HD HF
    go_wp2_with fail
    go_ret
    exact ⟨rfl, HB2.out⟩
  · obtain ⟨hR, hfit, k1, k2, hid, hN, h63⟩ := gtake_facts hcode
    obtain ⟨A2, c2, rfl, _, _, ho⟩ := hq.ops
    rw [hlx] at ho ⊢
    generalize hops : gOps l = lo at *
    generalize hend : gEnd l = f at *
    generalize hxid : xId l = id at *
    have HB2 := Lib.hid (below_to HB1.out hb2 HB1.out.size)
    have HO2 := Lib.hid ho
    have HP2 := Lib.hid (show Rd w2 _ f from Rd.of_obj (c := f.length) hp (Nat.le_refl _))
    have HX := Lib.hid (And.intro hR (And.intro hfit (And.intro k1 (And.intro k2 hid))))
    have HN := Lib.hid hN
    have H63 := Lib.hid h63
    clear hcode hlx hq hg hp hxg hsg hb2 ho hR hfit k1 k2 hid hN h63 HD hops hend hxid
    have HE := Lib.hid (gencap_ok id A2 lo c2 _ f.length f w2 HX.out.2.2.2.2 HO2.out HX.out.2.1 (by have := H63.out; omega) HX.out.1 HP2.out HX.out.2.2.1 HX.out.2.2.2.1)
    unfold EGood at HE
    rw [HN.out] at HE
    go_wp2_with fail
    refine HE.out.mono ?_
    rintro e w3 ⟨g3, rfl, _, ho3, hb3⟩
    have HB3 := Lib.hid (below_to HB2.out hb3 HB2.out.size)
    have hd := Rd.of_obj (c := (gPut id lo f).length) ho3 (Nat.le_refl _)
    rw [HN.out] at hd
    have HDc := Lib.hid (gback HX.out.2.2.2.2 HX.out.1 HX.out.2.1 HX.out.2.2.1 HX.out.2.2.2.1 hd)
    unfold GXGood at HDc
    have HO3 := Lib.hid (HO2.out.below hb3)
    have HP3 := Lib.hid (HP2.out.below hb3)
    clear ho3 hb3 hd HE HO2 HP2
    go_wp2_with fail
    refine HDc.out.mono ?_
    rintro e w4 ⟨sv4, lx4, g4, rfl, hlx4, hq4, _, hp4, _, _, hb4⟩
    obtain ⟨A4, c4, rfl, _, _, ho4⟩ := hq4.ops
    rw [hlx4] at ho4 ⊢
    have HB4 := Lib.hid (below_to HB3.out hb4 HB3.out.size)
    have HO4 := Lib.hid ho4
    have HQ4 := Lib.hid (HO3.out.below hb4)
    have HP4 := Lib.hid (show Rd w4 _ f from Rd.of_obj (c := f.length) hp4 (Nat.le_refl _))
    have HS4 := Lib.hid (HP3.out.below hb4)
    have HRt := Lib.hid (gright_any A2 lo c2 w4 HQ4.out (by have := H63.out; omega))
    unfold RPost at HRt
    clear hlx4 hq4 hp4 hb4 ho4 HDc HO3 HP3
    go_wp2_with fail
    refine HRt.out.mono ?_
    rintro e w5 (⟨_, rfl, hb5⟩ | ⟨h0, _⟩)
    · have HB5 := Lib.hid (below_to HB4.out hb5 HB4.out.size)
      have HSm := Lib.hid (gsame_any A2 A4 lo c2 c4 w5 (HQ4.out.below hb5) (HO4.out.below hb5) (by have := H63.out; omega))
      have HP5 := Lib.hid (HP4.out.below hb5)
      have HS5 := Lib.hid (HS4.out.below hb5)
      clear hb5 HRt HO4 HQ4 HP4 HS4
      go_wp2_with fail
      refine HSm.out.mono ?_
      rintro e w6 ⟨rfl, hb6⟩
      have HB6 := Lib.hid (below_to HB5.out hb6 HB5.out.size)
      have v1 := convert_rd (HP5.out.below hb6)
      have v2 := convert_rd (HS5.out.below hb6)
      clear hb6 HSm HP5 HS5
      go_wp2_with fail
      refine (HF.out w6).mono ?_
      rintro e w' ⟨rfl, rfl⟩
      go_wp2_with fail
      go_ret
      exact ⟨rfl, HB6.out⟩
    · exact absurd HX.out.1 h0
end Go.Proofs.Ytnjohgfhagoppaa
