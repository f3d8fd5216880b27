/-
  What is proved: the law GreAgain answers true for any bytes, and leaves all older memory as it was.
  Conditions: the slice is of fewer than 2^63 bytes.
-/
import Derived.Test.YtjnhfabgdegngaaLawGrSums
namespace Go.Proofs.Ytjnhfabgdegngaa
open Go.RowKit

set_option maxRecDepth 100000 in
set_option maxHeartbeats 4000000 in
theorem grAgain_any (A : Option Addr) (c : Nat) (l0 : List UInt8) (w : World) (hc : c ≤ 9223372036854775807) (hr0 : Rd w (.slice A l0.length c) l0) :
    Calls Try.prog 5 #[.slice A l0.length c] w fun e w' => e = .returned (.bool true) ∧ Below w.heap.size w w' := by
  have hlc := hr0.cap_le
  obtain ⟨l, hl, hr⟩ := grfront l0 hr0
  have HF : Hid (∀ W, _) := fun W => grfew_any A l0.length c W hc hlc l.length hl
  have HL : Hid (l.length ≤ 10000) := by show _ ≤ _; omega
  have HR := Lib.hid hr
  clear hl hr hr0 hlc
  go_enter Try.func5, Try.ntmps5
  go_wp2_with fail
  refine (grShown_any w).mono ?_
  rintro e w1 ⟨rfl, hb1⟩
  have HB1 := Lib.hid hb1
  have HR1 := Lib.hid (HR.out.below hb1)
  clear hb1
  go_wp2_with fail
  refine (HF.out w1).mono ?_
  rintro e w' ⟨rfl, rfl⟩
  have HD := grdec_any HR1.out (by have := HL.out; omega)
  by_cases h0 : grCode l = 0
  · have HD1 : Hid (Calls Try.prog 12 #[.slice A l.length c] w1 (GRGood (grHdr l) (grLeft l) w1)) := HD.mono fun e w' k => by
      rcases k with ⟨k, _⟩ | ⟨_, k⟩
      · exact absurd h0 k
      · exact k
    have hfit := grhdr_fit l
    have hfw := grframe_of h0
    have hat := grleft_at (grends_of h0)
    have h34 := grframe_fits hfw
    have hpb := grpack_back (grHdr l) hfit.1 (grLeft l)
    have hpl : ((grHdr l).pack (grLeft l)).length = l.length := by rw [GH.pack_len]; omega
    rw [hfit.2, hfw] at hpb
    have HEn : Hid (∀ A c W, _) := fun A c W hr => grencap_ok (grHdr l) hfit.1 A c (grLeft l) W hr h34.1 h34.2
    unfold GEGood at HEn
    unfold GRGood at HD1
    have HPB := Lib.hid hpb
    have HPL := Lib.hid hpl
    clear HD h0 hfit hfw hat h34 hpb hpl
    generalize (grHdr l).pack (grLeft l) = P at *
    generalize hh : grHdr l = h at *
    generalize hf : grLeft l = f at *
    clear hh hf
    go_wp2_with fail
    refine HD1.out.mono ?_
    rintro e w2 ⟨g2, he, _, ho2, hb2⟩
    have he' : e = .returned (.tuple #[.agg #[.bool h.s, .bool h.k, .int .u32 (h.key : Int), .bool h.q, .int .u32 (h.seq : Int)], .slice (some ⟨g2, 0, none⟩) f.length f.length, .nilIface]) := he
    subst he'
    have HX2 := Lib.hid (GBox.new w2 h)
    have HB2 := Lib.hid ((below_to HB1.out hb2 HB1.out.size).alloc (by have := hb2.size; have := HB1.out.size; omega) h.obj)
    have HO2 := Lib.hid ((((Below.refl w2.heap.size w2).alloc (Nat.le_refl _) h.obj).block _ (Array.getElem?_eq_some_iff.1 ho2).1).trans ho2)
    clear he hb2 ho2 HD1
    go_upto_region 3 with fail
    generalize hW : w2.alloc h.obj = W2 at HX2 HB2 HO2
    have hW2 : w2.alloc (.cells #[.bool h.s, .bool h.k, .int .u32 (h.key : Int), .bool h.q, .int .u32 (h.seq : Int)] 24) = W2 := hW
    rw [hW2]
    clear hW hW2
    generalize w2.heap.size = G2 at *
    have HRf : Hid (Rd W2 (.slice (some ⟨g2, 0, none⟩) f.length f.length) f) := Rd.of_obj HO2.out (Nat.le_refl _)
    obtain ⟨c0, c1, c2, c3, c4⟩ := HX2.out.cells
    have HEn2 := Lib.hid (HEn.out _ _ W2 HRf.out)
    go_wp2_with fail
    refine HEn2.out.mono ?_
    rintro e w3 ⟨g3, he, _, ho3, hb3⟩
    rw [HPL.out] at he
    subst he
    have HX3 := Lib.hid (HX2.out.below hb3)
    have HB3 := Lib.hid (below_to HB2.out hb3 HB2.out.size)
    have HR3 := Lib.hid (HRf.out.below hb3)
    have HD3 : Hid (Calls Try.prog 12 #[.slice (some ⟨g3, 0, none⟩) l.length l.length] w3 (GRGood h f w3)) := by
      have hd := grdec_any (bs := P) (w := w3) (A := some ⟨g3, 0, none⟩) (c := P.length) (Rd.of_obj ho3 (Nat.le_refl _)) (by rw [HPL.out]; have := HL.out; omega)
      rw [HPL.out] at hd
      refine hd.mono ?_
      rintro e w' (⟨k, _⟩ | ⟨_, k⟩)
      · exact absurd HPB.out.1 k
      · rw [HPB.out.2.1, HPB.out.2.2] at k; exact k
    unfold GRGood at HD3
    clear ho3 hb3 c0 c1 c2 c3 c4 HX2 HB2 HO2 HRf HEn HEn2
    go_wp2_with fail
    refine HD3.out.mono ?_
    rintro e w4 ⟨g4, he, _, ho4, hb4⟩
    have he' : e = .returned (.tuple #[.agg #[.bool h.s, .bool h.k, .int .u32 (h.key : Int), .bool h.q, .int .u32 (h.seq : Int)], .slice (some ⟨g4, 0, none⟩) f.length f.length, .nilIface]) := he
    subst he'
    have hb5 := hb4.alloc hb4.size h.obj
    have HX4 := Lib.hid (HX3.out.below hb5)
    have HY4 := Lib.hid (GBox.new w4 h)
    have HB4 := Lib.hid (below_to HB3.out hb5 HB3.out.size)
    have HR4 := Lib.hid (HR3.out.below hb5)
    have HO4 := Lib.hid ((((Below.refl w4.heap.size w4).alloc (Nat.le_refl _) h.obj).block _ (Array.getElem?_eq_some_iff.1 ho4).1).trans ho4)
    clear he hb4 hb5 ho4 HX3 HB3 HR3 HD3
    go_upto_region 7 with fail
    generalize hW : w4.alloc h.obj = W4 at HX4 HY4 HB4 HR4 HO4
    have hW2 : w4.alloc (.cells #[.bool h.s, .bool h.k, .int .u32 (h.key : Int), .bool h.q, .int .u32 (h.seq : Int)] 24) = W4 := hW
    rw [hW2]
    clear hW hW2
    generalize w4.heap.size = G4 at *
    obtain ⟨a0, a1, a2, a3, a4⟩ := HY4.out.cells
    obtain ⟨b0, b1, b2, b3, b4⟩ := HX4.out.cells
    have cv1 := convert_rd HR4.out
    have cv2 := convert_rd (Rd.of_obj (c := f.length) HO4.out (Nat.le_refl _))
    go_wp2_with fail
    refine (HF.out _).mono ?_
    rintro e w' ⟨rfl, rfl⟩
    go_wp2_with fail
    go_ret
    exact ⟨rfl, HB4.out⟩
  · have HD1 : Hid (Calls Try.prog 12 #[.slice A l.length c] w1 (GRBad (grCode l : Nat) (grNames l) w1)) := HD.mono fun e w' k => by
      rcases k with ⟨_, k⟩ | ⟨k, _⟩
      · exact k
      · exact absurd k h0
    unfold GRBad at HD1
    clear HD h0
    go_wp2_with fail
    refine HD1.out.mono ?_
    rintro e w2 ⟨b2, he, _, hb2⟩
    have he' : e = .returned (.tuple #[.agg #[.bool false, .bool false, .int .u32 0, .bool false, .int .u32 0], .slice none 0 0, .iface 71 (.pointer (some ⟨b2, 0, none⟩))]) := he
    subst he'
    have HB2 : Hid (∀ o, Below w.heap.size w (w2.alloc o)) := fun o => (below_to HB1.out hb2 HB1.out.size).alloc (by have := hb2.size; have := HB1.out.size; omega) o
    clear he hb2 HD1
    go_wp2_with fail
    go_ret
    exact ⟨rfl, HB2.out _⟩
end Go.Proofs.Ytjnhfabgdegngaa
