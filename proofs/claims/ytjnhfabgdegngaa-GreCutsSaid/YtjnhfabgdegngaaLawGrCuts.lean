/-
  What is proved: the law GreCuts answers true for any header, frame and place, and leaves all older memory as it was.
  Conditions: the slice is of fewer than 2^63 bytes.
-/
import Derived.Test.YtjnhfabgdegngaaLawGrSums
import Derived.BigQuiet
import Derived.Deep.QuietTactic
namespace Go.Proofs.Ytjnhfabgdegngaa
open Go.RowKit

theorem gi64_fits (z : Int) (h1 : -9223372036854775808 ≤ z) (h2 : z ≤ 9223372036854775807) : IntKind.i64.wrap z = z := by
  have a : IntKind.i64.bits = 64 := rfl
  have b : IntKind.i64.signed = true := rfl
  simp only [IntKind.wrap, a, b]
  simp
  split <;> omega
theorem gbelow_drawn {n k : Nat} {w W : World} (h : Below n w W) : Below n w (W.drewN k) := ⟨h.os, h.tape, h.output, h.size, h.block⟩
set_option maxRecDepth 100000 in
set_option maxHeartbeats 4000000 in
theorem grCuts_any (h0 : GH) (hf : h0.Fit) (A : Option Addr) (c : Nat) (l0 : List UInt8) (at0 : Int) (w : World) (hc : c ≤ 9223372036854775807) (hr0 : Rd w (.slice A l0.length c) l0) :
    Calls Try.prog 8 #[.agg #[.bool h0.s, .bool h0.k, .int .u32 (h0.key : Int), .bool h0.q, .int .u32 (h0.seq : Int)], .slice A l0.length c, .int .i64 at0] w fun e w' => e = .returned (.bool true) ∧ Below w.heap.size w w' := by
  have hlc := hr0.cap_le
  obtain ⟨l, hl, hr⟩ := grfront l0 hr0
  have HF : Hid (∀ W, _) := fun W => grfew_any A l0.length c W hc hlc l.length hl
  have HL : Hid (l.length ≤ 10000) := by show _ ≤ _; omega
  have HR := Lib.hid hr
  have HX := Lib.hid (GBX.new w h0)
  obtain ⟨h, hh⟩ : ∃ h : GH, h = ⟨false, h0.k, h0.key, h0.q, h0.seq⟩ := ⟨_, rfl⟩
  have HFit : Hid h.Fit := by subst hh; exact ⟨hf.key, hf.seq⟩
  have HS : Hid (h.s = false) := by subst hh; rfl
  have HH : Hid (h0.row.setIfInBounds 0 (.bool false) = h.row) := by subst hh; rfl
  clear hl hr hr0 hlc hf hh
  go_enter Try.func8, Try.ntmps8
  go_upto_region 1 with fail
  generalize hW : w.alloc h0.obj = W at HX
  unfold GH.obj GH.row at hW
  rw [hW]
  clear hW
  generalize hG : w.heap.size = G at *
  have HE := Lib.hid hG
  clear hG
  go_wp2_with fail
  refine (grShown_any W).mono ?_
  rintro e w1 ⟨rfl, hb1⟩
  have HX1 := Lib.hid (HX.out.below hb1)
  have HX2 := Lib.hid (HX1.out.set 0 (.bool false) h HH.out)
  have c0 := HX1.out.box.c0
  have f0 := HX1.out.box.free 0
  clear hb1 HX
  go_upto_region 3 with fail
  clear c0 f0 HX1
  generalize w1.setCell ⟨G, 0, none⟩ (.bool false) = W2 at *
  go_wp2_with fail
  refine (HF.out _).mono ?_
  rintro e w' ⟨rfl, rfl⟩
  have HR2 := Lib.hid (HR.out.below HX2.out.old)
  have HEn := Lib.hid (grencap_any h HFit.out A c l W2 HR2.out)
  obtain ⟨c0, c1, c2, c3, c4⟩ := HX2.out.box.cells
  go_wp2_with fail
  refine HEn.out.mono ?_
  rintro e w3 (⟨_, b, rfl, _, hb3⟩ | ⟨hcode, g, he, _, ho3, hb3⟩)
  · have HB3 := Lib.hid (below_to HX2.out.old hb3 HX2.out.old.size)
    clear hb3
    go_wp2_with fail
    go_ret
    exact ⟨rfl, HB3.out⟩
  · have h34 := grframe_fits hcode
    have hpk : h.pack l = h.bytes 0 ++ l := by unfold GH.pack; rw [GH.bytes_nosum HS.out _ 0]
    have hpl := h.pack_len l
    have hat := h.at_le
    have HCS : Hid (∀ k, k < h.at + 14 → k ≤ h.at + l.length → grCode ((h.pack l).take k) = 2) := fun k h1 h2 => by rw [hpk]; exact grcut_short h HS.out HFit.out 0 l k h1 h2
    have HCL : Hid (∀ m, grCode ((h.pack l).take (h.at + m)) = frameWrong (l.take m).length ∧ grLeft ((h.pack l).take (h.at + m)) = l.take m) := fun m => by rw [hpk, grcut_long]; exact grcut_ok h HS.out HFit.out 0 (l.take m)
    have HB3 := Lib.hid (below_to HX2.out.old hb3 HX2.out.old.size)
    have HR3 := Lib.hid (HR2.out.below hb3)
    clear hpk hb3 hcode HR2 HX2 HEn c0 c1 c2 c3 c4
    generalize h.at = a at *
    generalize h.pack l = P at *
    obtain ⟨N, hN⟩ : ∃ N, P.length = N := ⟨_, rfl⟩
    have HN := Lib.hid hN
    rw [hN] at he hpl
    subst he
    have HD3 : Hid (Rd w3 (.slice (some ⟨g, 0, none⟩) P.length P.length) P) := Rd.of_obj ho3 (Nat.le_refl _)
    have ha := and_low_i64 at0
    obtain ⟨p, hp⟩ : ∃ p : Nat, at0 % 65536 = (p : Int) := ⟨(at0 % 65536).toNat, by omega⟩
    rw [hp] at ha
    obtain ⟨k, hkd⟩ : ∃ k, k = p % (N + 1) := ⟨_, rfl⟩
    have hkl : k ≤ N := by have := Nat.mod_lt p (show 0 < N + 1 by omega); omega
    have hk : ((p : Int) % ((N : Int) + 1)) = (k : Int) := by rw [hkd]; simp
    have hNl : N ≤ 9016 := by omega
    obtain ⟨t, ht⟩ : ∃ t, t = a + 14 := ⟨_, rfl⟩
    have hts : (N : Int) - (l.length : Int) + 14 = (t : Int) := by omega
    have HLn := Lib.hid (And.intro hpl (And.intro hat (And.intro h34 ht)))
    clear hkd hp ho3 hN hpl hat h34
    by_cases hlt : k < t
    · have hcut := Lib.hid (HCS.out k (by omega) (by have := HLn.out.1; omega))
      have hrf := HD3.out.front (K := k) (by rw [HN.out]; exact hkl)
      rw [HN.out] at hrf
      have htl : (P.take k).length = k := by rw [List.length_take, HN.out]; omega
      have HD4 : Hid (Calls Try.prog 12 #[.slice (some ⟨g, 0, none⟩) k N] w3 fun e w' => ∃ ns, GRBad 2 ns w3 e w') := by
        have hd := grdec_any (bs := P.take k) (w := w3) (A := some ⟨g, 0, none⟩) (c := N) (by rw [htl]; exact hrf) (by omega)
        rw [htl] at hd
        refine hd.mono ?_
        rintro e w' (⟨_, h⟩ | ⟨h, _⟩)
        · rw [hcut.out] at h; exact ⟨_, h⟩
        · rw [hcut.out] at h; cases h
      unfold GRBad at HD4
      have q : decide ((k : Int) < (t : Int)) = true := decide_eq_true (by omega)
      clear hcut hrf htl HD3 HR3 ht q
      go_wp2_with fail
      refine HD4.out.mono ?_
      rintro e w4 ⟨ns, b4, he, hc4, hb4⟩
      have he' : e = .returned (.tuple #[.agg #[.bool false, .bool false, .int .u32 0, .bool false, .int .u32 0], .slice none 0 0, .iface 71 (.pointer (some ⟨b4, 0, none⟩))]) := he
      subst he'
      have HC4 : Hid (∀ o, _) := fun o => is_any 2 2 _ _ _ (hc4.below ((Below.refl _ _).alloc (Nat.le_refl _) o))
      have HB4 : Hid (∀ o, Below w.heap.size w (w4.alloc o)) := fun o => by
        have h1 := below_to HB3.out hb4 HB3.out.size
        exact h1.alloc h1.size o
      clear he hc4 hb4
      go_wp2_with fail
      refine (HC4.out _).mono ?_
      rintro e w' ⟨he, rfl⟩
      have he' : e = .returned (.bool true) := he
      subst he'
      clear he
      go_wp2_with fail
      go_ret
      exact ⟨rfl, HB4.out _⟩
    · obtain ⟨m, rfl⟩ : ∃ m, k = a + m := ⟨k - a, by omega⟩
      have hm : m ≤ l.length := by have := HLn.out.1; omega
      have hm14 : 14 ≤ m := by omega
      obtain ⟨cs, hcs⟩ : ∃ cs, cs = l.take m := ⟨_, rfl⟩
      have hcl : cs.length = m := by rw [hcs, List.length_take]; omega
      have hrf := HD3.out.front (K := a + m) (by rw [HN.out]; exact hkl)
      rw [HN.out] at hrf
      have htl : (P.take (a + m)).length = a + m := by rw [List.length_take, HN.out]; omega
      obtain ⟨k1, k2⟩ := HCL.out m
      rw [← hcs] at k1 k2
      have HD4 : Hid (Calls Try.prog 12 #[.slice (some ⟨g, 0, none⟩) (a + m) N] w3 fun e w' => ∃ hd : GH, GRGood hd cs w3 e w') := by
        have hd := grdec_any (bs := P.take (a + m)) (w := w3) (A := some ⟨g, 0, none⟩) (c := N) (by rw [htl]; exact hrf) (by omega)
        rw [htl] at hd
        refine hd.mono ?_
        rintro e w' (⟨h, _⟩ | ⟨_, h⟩)
        · exact absurd (k1.trans (frame0 (by omega) (by have := HLn.out.2.2.1.2; omega))) h
        · rw [k2] at h; exact ⟨_, h⟩
      have hrc := HR3.out.front (K := m) hm
      rw [← hcs] at hrc
      have HRC := Lib.hid hrc
      subst hcl
      generalize hkk : a + cs.length = k at *
      have q : decide ((k : Int) < (t : Int)) = false := decide_eq_false (by omega)
      have hD : (k : Int) - (t : Int) + 14 = (cs.length : Int) := by omega
      obtain ⟨D, hDD⟩ : ∃ D : Int, D = (k : Int) - (t : Int) := ⟨_, rfl⟩
      have s1 : IntKind.i64.wrap ((k : Int) - (t : Int)) = D := by rw [gi64_fits _ (by omega) (by omega), hDD]
      have s2 : IntKind.i64.wrap (D + 14) = (cs.length : Int) := by rw [gi64_fits _ (by omega) (by omega)]; omega
      have hcl10 : cs.length ≤ 10000 := by have := HL.out; omega
      unfold GRGood at HD4
      clear hrf htl hrc hcs HD3 HR3 ht k1 k2 hkk hD hDD hm14 q
      go_wp2_with fail
      refine HD4.out.mono ?_
      rintro e w4 ⟨hd, g4, he, _, ho4, hb4⟩
      have he' : e = .returned (.tuple #[.agg #[.bool hd.s, .bool hd.k, .int .u32 (hd.key : Int), .bool hd.q, .int .u32 (hd.seq : Int)], .slice (some ⟨g4, 0, none⟩) cs.length cs.length, .nilIface]) := he
      subst he'
      have HB4 := Lib.hid ((below_to HB3.out hb4 HB3.out.size).alloc (by have := hb4.size; have := HB3.out.size; omega) hd.obj)
      have HQ4 := Lib.hid ((HRC.out.below hb4).alloc hd.obj)
      have HO4 : Hid (Rd (w4.alloc hd.obj) (.slice (some ⟨g4, 0, none⟩) cs.length cs.length) cs) := (Rd.of_obj (c := cs.length) ho4 (Nat.le_refl _)).alloc _
      clear he hb4 ho4 HRC HD4
      go_upto_region 9 with fail
      generalize hW : w4.alloc hd.obj = W4 at HB4 HQ4 HO4
      have hW2 : w4.alloc (.cells #[.bool hd.s, .bool hd.k, .int .u32 (hd.key : Int), .bool hd.q, .int .u32 (hd.seq : Int)] 24) = W4 := hW
      rw [hW2]
      clear hW hW2
      go_upto_region 12 with fail
      have v1 : ∀ k, (convert 25 9 (.slice (some ⟨g4, 0, none⟩) cs.length cs.length)).run Try.prog (W4.drewN k) = .ok (.string (txt cs)) (W4.drewN k) := fun k => convert_rd (HO4.out.below ⟨rfl, rfl, rfl, Nat.le_refl _, fun _ _ => rfl⟩)
      have v2 : ∀ k, (convert 25 9 (.slice A cs.length c)).run Try.prog (W4.drewN k) = .ok (.string (txt cs)) (W4.drewN k) := fun k => convert_rd (HQ4.out.below ⟨rfl, rfl, rfl, Nat.le_refl _, fun _ _ => rfl⟩)
      have s3 : IntKind.i64.wrap (cs.length : Int) = (cs.length : Int) := gi64_fits _ (by omega) (by omega)
      have hcc : cs.length ≤ c := HQ4.out.cap_le
      go_quiet (fail)
      go_wp2_with fail
      go_ret
      exact ⟨rfl, gbelow_drawn HB4.out⟩
end Go.Proofs.Ytjnhfabgdegngaa
