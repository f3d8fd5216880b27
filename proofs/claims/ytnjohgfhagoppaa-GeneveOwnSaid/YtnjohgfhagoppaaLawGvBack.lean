/-
  What is proved: the law GeneveBack answers true for any id, options and frame, and leaves all older memory as it was.
  Conditions: the slices are of fewer than 2^63 elements.
-/
import Derived.Test.YtnjohgfhagoppaaGvFacts
import Derived.Test.YtnjohgfhagoppaaGvShown
namespace Go.Proofs.Ytnjohgfhagoppaa
open Go.RowKit

theorem gfront {w : World} {A : Option Addr} {c : Nat} (l0 : List UInt8) (hr : Rd w (.slice A l0.length c) l0) : ∃ l, l.length = min l0.length 10000 ∧ Rd w (.slice A l.length c) l := by
  have h := Rd.front (K := min l0.length 10000) hr (Nat.min_le_left _ _)
  have e : (l0.take (min l0.length 10000)).length = min l0.length 10000 := by rw [List.length_take]; omega
  exact ⟨l0.take (min l0.length 10000), e, by rw [e]; exact h⟩
theorem gfrontO {w : World} {A : Option Addr} (l0 : List Op) (h : OpsAt w A l0) (hf : ∀ x ∈ l0, x.Fit) : ∃ l, l.length = min l0.length 100 ∧ l.length ≤ 100 ∧ OpsAt w A l ∧ ∀ x ∈ l, x.Fit :=
  ⟨l0.take 100, by rw [List.length_take]; omega, by rw [List.length_take]; omega, h.take 100, fun x hx => hf x (List.mem_of_mem_take hx)⟩
theorem geCode_zero {id : Nat} {l : List Op} {n : Nat} (h : geCode id l n = 0) : id < 16777216 ∧ opRight l = 0 ∧ 14 ≤ n ∧ n ≤ 9000 := by
  unfold geCode at h
  by_cases h1 : 16777216 ≤ id
  · rw [if_pos h1] at h; cases h
  · rw [if_neg h1] at h
    by_cases h2 : opRight l = 0
    · rw [if_pos h2] at h
      have := frame_fits h
      exact ⟨by omega, h2, this.1, this.2⟩
    · rw [if_neg h2] at h; exact absurd h h2
theorem frame_bad {n : Nat} (h : frameWrong n ≠ 0) : n < 14 ∨ 9000 < n := by
  unfold frameWrong at h
  by_cases k1 : n < 14
  · exact .inl k1
  · rw [if_neg k1] at h
    by_cases k2 : 9000 < n
    · exact .inr k2
    · rw [if_neg k2] at h; exact absurd rfl h
set_option maxRecDepth 100000 in
set_option maxHeartbeats 8000000 in
theorem gvBack_any (id : Nat) (A1 : Option Addr) (c1 : Nat) (L : List Op) (A : Option Addr) (c : Nat) (l0 : List UInt8) (w : World) (_hid : id < 4294967296) (hO : OpsAt w A1 L) (hfit : ∀ x ∈ L, x.Fit) (hLc : L.length ≤ c1) (hc1 : c1 ≤ 9223372036854775807) (hc : c ≤ 9223372036854775807) (hr0 : Rd w (.slice A l0.length c) l0) :
    Calls Try.prog 7 #[.int .u32 (id : Int), .slice A1 L.length c1, .slice A l0.length c] w fun e w' => e = .returned (.bool true) ∧ Below w.heap.size w w' := by
  have hlc := hr0.cap_le
  obtain ⟨f, hl, hr⟩ := gfront l0 hr0
  obtain ⟨l, hl2, hl3, ho, hft⟩ := gfrontO L hO hfit
  have HF : Hid (∀ W, _) := fun W => gfew_any A l0.length c W hc hlc f.length hl
  have HS : Hid (∀ W, _) := fun W => gsome_any A1 L.length c1 W hc1 hLc l.length hl2
  have hf2 : f.length ≤ 10000 := by omega
  have HR := Lib.hid hr
  have HO := Lib.hid ho
  have HFT := Lib.hid hft
  have HL := Lib.hid hl3
  clear hl hl2 hr hr0 hlc ho hft hO hfit hLc hc1 hc
  go_enter Try.func7, Try.ntmps7
  go_wp2_with fail
  refine (gvShown_any w).mono ?_
  rintro e w1 ⟨rfl, hb1⟩
  have HB1 := Lib.hid hb1
  clear hb1
  go_wp2_with fail
  refine (HF.out w1).mono ?_
  rintro e w' ⟨rfl, rfl⟩
  go_wp2_with fail
  refine (HS.out w1).mono ?_
  rintro e w' ⟨rfl, rfl⟩
  clear HF HS
  have HE := Lib.hid (gencap_any id A1 l c1 A c f w1 (HO.out.below HB1.out) HFT.out (by have := HL.out; omega) (HR.out.below HB1.out))
  go_wp2_with fail
  refine HE.out.mono ?_
  rintro e w2 (⟨hcode, b, rfl, _, hb2⟩ | ⟨hcode, g, he, hg, ho2, hb2⟩)
  · have HB2 := Lib.hid (below_to HB1.out hb2 HB1.out.size)
    have HRt := Lib.hid (gright_any A1 l c1 w2 (HO.out.below HB2.out) (by have := HL.out; omega))
    unfold RPost at HRt
    clear hb2 HE
    by_cases h1 : 16777216 ≤ id
    · have q1 : decide ((16777216 : Int) ≤ (id : Int)) = true := decide_eq_true (by omega)
      clear hcode
      go_wp2_with fail
      go_ret
      exact ⟨rfl, HB2.out⟩
    · have q1 : decide ((16777216 : Int) ≤ (id : Int)) = false := decide_eq_false (by omega)
      by_cases h2 : opRight l = 0
      · have hw : frameWrong f.length ≠ 0 := by unfold geCode at hcode; rw [if_neg h1, if_pos h2] at hcode; exact hcode
        have hw2 := frame_bad hw
        have HZ := Lib.hid h2
        clear hcode hw h2
        go_wp2_with fail
        refine HRt.out.mono ?_
        rintro e w3 (⟨_, rfl, hb3⟩ | ⟨h0, _⟩)
        · have HB3 := Lib.hid (below_to HB2.out hb3 HB2.out.size)
          clear hb3 HRt
          by_cases h14 : f.length < 14
          · have q2 : decide ((f.length : Int) < 14) = true := decide_eq_true (by omega)
            go_wp2_with fail
            go_ret
            exact ⟨rfl, HB3.out⟩
          · have q2 : decide ((f.length : Int) < 14) = false := decide_eq_false (by omega)
            have q3 : decide ((9000 : Int) < (f.length : Int)) = true := decide_eq_true (by omega)
            go_wp2_with fail
            go_ret
            exact ⟨rfl, HB3.out⟩
        · exact absurd HZ.out h0
      · have HZ := Lib.hid h2
        clear hcode h2
        go_wp2_with fail
        refine HRt.out.mono ?_
        rintro e w3 (⟨h0, _⟩ | ⟨_, b3, rfl, _, hb3⟩)
        · exact absurd h0 HZ.out
        · have HB3 := Lib.hid (below_to HB2.out hb3 HB2.out.size)
          clear hb3 HRt
          go_wp2_with fail
          go_ret
          exact ⟨rfl, HB3.out⟩
  · obtain ⟨hid, hR, k1, k2⟩ := geCode_zero hcode
    obtain ⟨N, hN⟩ : ∃ N, (gPut id l f).length = N := ⟨_, rfl⟩
    have hN2 := gPut_len id l f
    rw [hN] at he hN2
    subst he
    have hd := Rd.of_obj (c := (gPut id l f).length) ho2 (Nat.le_refl _)
    rw [hN] at hd
    have HB2 := Lib.hid (below_to HB1.out hb2 HB1.out.size)
    have HRt := Lib.hid (gright_any A1 l c1 w2 (HO.out.below HB2.out) (by have := HL.out; omega))
    have HDc : Hid (∀ W, Below w2.heap.size w2 W → _) := fun W hW => gback hid hR HFT.out k1 k2 (hd.below hW)
    unfold RPost at HRt
    unfold GXGood at HDc
    have HZ := Lib.hid hR
    have HSZ := Lib.hid (opRight_zero hR)
    have q1 : decide ((16777216 : Int) ≤ (id : Int)) = false := decide_eq_false (by omega)
    have q2 : decide ((f.length : Int) < 14) = false := decide_eq_false (by omega)
    have q3 : decide ((9000 : Int) < (f.length : Int)) = false := decide_eq_false (by omega)
    have HNN := Lib.hid hN2
    clear hN ho2 hb2 hg hd hcode hid hR k1 k2 hN2 HE
    go_wp2_with fail
    refine HRt.out.mono ?_
    rintro e w3 (⟨_, rfl, hb3⟩ | ⟨h0, _⟩)
    · have HB3 := Lib.hid (below_to HB2.out hb3 HB2.out.size)
      have HX := Lib.hid (HDc.out w3 hb3)
      clear hb3 HRt HDc
      go_wp2_with fail
      refine HX.out.mono ?_
      rintro e w4 ⟨sv, lx, g4, rfl, hlx, hq, _, hp4, _, _, hb4⟩
      obtain ⟨A4, c4, rfl, _, _, ho4⟩ := hq.ops
      rw [hlx] at ho4 ⊢
      have HB4 := Lib.hid (below_to HB3.out hb4 HB3.out.size)
      have HO4 := Lib.hid ho4
      have HP4 := Lib.hid (show Rd w4 _ f from Rd.of_obj (c := f.length) hp4 (Nat.le_refl _))
      clear hlx hq hp4 hb4 ho4 HX
      go_wp2_with fail
      go_loopw [14, 15] (fun s14 s15 wr => ∃ k : Nat, s15 = .int .i64 (k : Int) ∧ k ≤ l.length ∧ s14 = .int .i64 ((8 + f.length + opSize (l.take k) : Nat) : Int) ∧ Below w4.heap.size w4 wr) (fun _ s15 _ => l.length - (intOf s15).toNat)
      case atStart => exact ⟨0, rfl, Nat.zero_le _, rfl, Below.refl _ _⟩
      case round =>
        obtain ⟨k, rfl, hk, rfl, hB⟩ := hrel
        have HB := Lib.hid hB
        clear hB
        by_cases hlt : k < l.length
        · have r1 : decide ((k : Int) < (l.length : Int)) = true := decide_eq_true (by omega)
          obtain ⟨x, hx⟩ : ∃ x, l[k]? = some x := ⟨l[k], List.getElem?_eq_getElem hlt⟩
          obtain ⟨g5, o5, B5, b5, rfl, ha, _, _⟩ := HO.out k x hx
          obtain ⟨c0, c1, c2⟩ := ha.below (below_to HB4.out HB.out HB4.out.size)
          have hs := opSize_take_succ l k x hx
          have h1 := opSize_take_le l HSZ.out.1 k
          have h2 := (opAll_get HSZ.out.1 hx).1
          have HSS := Lib.hid hs
          clear hs hx ha
          generalize opSize (l.take k) = S at *
          go_wp2_with fail
          exact ⟨⟨k + 1, by simp, by omega, by rw [HSS.out]; congr 1; omega, HB.out⟩, by simp [intOf]; omega⟩
        · have r1 : decide ((k : Int) < (l.length : Int)) = false := decide_eq_false (by omega)
          have hkl : k = l.length := by omega
          have hfull : l.take k = l := by rw [hkl, List.take_length]
          rw [hfull]
          have hNe : 8 + f.length + opSize l = N := by have := HNN.out; omega
          rw [hNe]
          clear hfull hkl hk hNe
          have HSm := Lib.hid (gsame_any A4 A1 l c4 c1 wr (HO4.out.below HB.out) (HO.out.below (below_to HB4.out HB.out HB4.out.size)) (by have := HL.out; omega))
          go_wp2_with fail
          refine HSm.out.mono ?_
          rintro e w5 ⟨rfl, hb5⟩
          have v1 := convert_rd ((HP4.out.below HB.out).below hb5)
          have v2 := convert_rd (HR.out.below (below_to (below_to HB4.out HB.out HB4.out.size) hb5 (below_to HB4.out HB.out HB4.out.size).size))
          have HB5 := Lib.hid (below_to (below_to HB4.out HB.out HB4.out.size) hb5 (below_to HB4.out HB.out HB4.out.size).size)
          clear hb5 HSm
          go_wp2_with fail
          go_ret
          exact ⟨rfl, HB5.out⟩
    · exact absurd HZ.out h0
end Go.Proofs.Ytnjohgfhagoppaa
