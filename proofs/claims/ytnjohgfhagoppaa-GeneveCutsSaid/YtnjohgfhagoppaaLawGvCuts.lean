/-
  What is proved: the law GeneveCuts answers true for any id, options and frame, cut anywhere, and leaves all older memory as it was.
  Conditions: the slices are of fewer than 2^63 elements.
-/
import Derived.Test.YtnjohgfhagoppaaLawGvBack
import Derived.Test.YtnjohgfhagoppaaSum
namespace Go.Proofs.Ytnjohgfhagoppaa
open Go.RowKit

set_option maxRecDepth 100000 in
set_option maxHeartbeats 1000000 in
theorem gvCuts_any (id : Nat) (A1 : Option Addr) (c1 : Nat) (L : List Op) (A : Option Addr) (c : Nat) (l0 : List UInt8) (at0 : Int) (w : World) (_hid : id < 4294967296) (hO : OpsAt w A1 L) (hfit : ∀ x ∈ L, x.Fit) (hLc : L.length ≤ c1) (hc1 : c1 ≤ 9223372036854775807) (hc : c ≤ 9223372036854775807) (hr0 : Rd w (.slice A l0.length c) l0) :
    Calls Try.prog 9 #[.int .u32 (id : Int), .slice A1 L.length c1, .slice A l0.length c, .int .i64 at0] w fun e w' => e = .returned (.bool true) ∧ Below w.heap.size w w' := by
  have hlc := hr0.cap_le
  obtain ⟨f, hl, hr⟩ := gfront l0 hr0
  obtain ⟨l, hl2, hl3, ho, hft⟩ := gfrontO L hO hfit
  have HF : Hid (∀ W, _) := fun W => gfew_any A l0.length c W hc hlc f.length hl
  have HS : Hid (∀ W, _) := fun W => gsome_any A1 L.length c1 W hc1 hLc l.length hl2
  have hf2 : f.length ≤ 10000 := by omega
  have HR := Lib.hid hr
  have HO := Lib.hid ho
  have HFT := Lib.hid hft
  have HL := Lib.hid hl3
  clear hl hl2 hr hr0 hlc ho hft hO hfit hLc hc1 hc
  go_enter Try.func9, Try.ntmps9
  go_wp2_with fail
  refine (gvShown_any w).mono ?_
  rintro e w1 ⟨rfl, hb1⟩
  have HB1 := Lib.hid hb1
  clear hb1
  go_wp2_with fail
  refine (HF.out w1).mono ?_
  rintro e w' ⟨rfl, rfl⟩
  go_wp2_with fail
  refine (HS.out w1).mono ?_
  rintro e w' ⟨rfl, rfl⟩
  clear HF HS
  have HE := Lib.hid (gencap_any id A1 l c1 A c f w1 (HO.out.below HB1.out) HFT.out (by have := HL.out; omega) (HR.out.below HB1.out))
  go_wp2_with fail
  refine HE.out.mono ?_
  rintro e w2 (⟨hcode, b, rfl, _, hb2⟩ | ⟨hcode, g, he, hg, ho2, hb2⟩)
  · have HB2 := Lib.hid (below_to HB1.out hb2 HB1.out.size)
    clear hb2 HE
    go_wp2_with fail
    go_ret
    exact ⟨rfl, HB2.out⟩
  · obtain ⟨hid, hR, k1, k2⟩ := geCode_zero hcode
    obtain ⟨N, hN⟩ : ∃ N, (gPut id l f).length = N := ⟨_, rfl⟩
    have hN2 := gPut_len id l f
    rw [hN] at he hN2
    subst he
    have hd := Rd.of_obj (c := (gPut id l f).length) ho2 (Nat.le_refl _)
    have HB2 := Lib.hid (below_to HB1.out hb2 HB1.out.size)
    have hsz := (opRight_zero hR).2
    have ha := and_low_i64 at0
    obtain ⟨p, hp⟩ : ∃ p : Nat, at0 % 65536 = (p : Int) := ⟨(at0 % 65536).toNat, by omega⟩
    rw [hp] at ha
    have hpl : p < 65536 := by omega
    obtain ⟨k, hkd⟩ : ∃ k, k = p % (N + 1) := ⟨_, rfl⟩
    have hkl : k ≤ N := by have := Nat.mod_lt p (show 0 < N + 1 by omega); omega
    have hk : ((p : Int) % ((N : Int) + 1)) = (k : Int) := by rw [hkd]; simp
    have hcut := gcut_facts id l f hid hR HFT.out k1 k2 k (by rw [hN]; exact hkl)
    have hrf := hd.front (K := k) (by rw [hN]; exact hkl)
    rw [hN] at hrf
    have htl : ((gPut id l f).take k).length = k := by rw [List.length_take, hN]; omega
    have hdec := gdec_any hrf (by rw [htl]; omega)
    clear hN ho2 hb2 hg hd hcode hid hR HE hkd hp
    obtain ⟨M, hM⟩ : ∃ M, M = 8 + opSize l := ⟨_, rfl⟩
    rw [← hM] at hN2 hcut
    have hM2 : M ≤ 260 := by omega
    have hNf : ((N : Int) - (f.length : Int)) = (M : Int) := by omega
    have HN2 := Lib.hid hN2
    have HM2 := Lib.hid (And.intro hM2 (And.intro hpl hkl))
    have hN9 : N ≤ 20000 := by omega
    clear hM hsz hN2 hM2 hpl
    by_cases hlt : k < M + 14
    · have HD3 : Hid (Calls Try.prog 21 #[.slice (some ⟨g, 0, none⟩) k N] w2 fun e w' => ∃ ns, GXBad 2 ns w2 e w') := by
        refine hdec.mono ?_
        rintro e w' (⟨_, h⟩ | ⟨h, _⟩)
        · rw [hcut.1 hlt] at h; exact ⟨_, h⟩
        · rw [hcut.1 hlt] at h; cases h
      unfold GXBad at HD3
      have q1 : decide ((k : Int) < (M : Int) + 14) = true := decide_eq_true (by omega)
      clear hcut hrf htl hdec hlt
      go_wp2_with fail
      refine HD3.out.mono ?_
      rintro e w3 ⟨ns, b3, rfl, hc3, hb3⟩
      have HC3 := Lib.hid hc3
      have HB3 := Lib.hid (below_to HB2.out hb3 HB2.out.size)
      clear hc3 hb3
      go_wp2_with fail
      refine (is_any 2 2 _ _ _ HC3.out).mono ?_
      rintro e w' ⟨he, rfl⟩
      have he' : e = .returned (.bool true) := he
      subst he'
      clear he
      go_wp2_with fail
      go_ret
      exact ⟨rfl, HB3.out⟩
    · obtain ⟨hz, he⟩ := hcut.2 (by omega)
      have HD3 : Hid (Calls Try.prog 21 #[.slice (some ⟨g, 0, none⟩) k N] w2 fun e w' => ∃ (z : Int) (sv : Value) (A3 : Option Addr) (n : Nat), e = .returned (.tuple #[.int .u32 z, sv, .slice A3 n n, .nilIface]) ∧ n = k - M ∧ Below w2.heap.size w2 w') := by
        refine hdec.mono ?_
        rintro e w' (⟨h, _⟩ | ⟨_, sv, lx, g3, rfl, _, _, _, _, _, _, h3⟩)
        · exact absurd hz h
        · exact ⟨_, _, _, _, rfl, he, h3⟩
      have q1 : decide ((k : Int) < (M : Int) + 14) = false := decide_eq_false (by omega)
      clear hcut hrf htl hdec hz he
      go_wp2_with fail
      refine HD3.out.mono ?_
      rintro e w3 ⟨z, sv, A3, n, rfl, hn, hb3⟩
      have HB3 := Lib.hid (below_to HB2.out hb3 HB2.out.size)
      have hkn : (k : Int) - ((M : Int) + 14) = (n : Int) - 14 := by omega
      clear hb3
      go_wp2_with fail
      go_ret
      exact ⟨rfl, HB3.out⟩
end Go.Proofs.Ytnjohgfhagoppaa
