/-
  What is proved: the law GeneveOwn answers true for any id, options and frame, and leaves all older memory as it was.
  Conditions: the slices are of fewer than 2^63 elements.
-/
import Derived.Test.YtnjohgfhagoppaaLawGvBack
import Derived.Test.YtnjohgfhagoppaaGvOver
import Derived.BigRegion
namespace Go.Proofs.Ytnjohgfhagoppaa
open Go.RowKit

set_option maxRecDepth 100000 in
set_option maxHeartbeats 8000000 in
theorem gvOwn_any (id0 : Nat) (A1 : Option Addr) (c1 : Nat) (L : List Op) (A : Option Addr) (c : Nat) (l0 : List UInt8) (w : World) (hid0 : id0 < 4294967296) (hO : OpsAt w A1 L) (hfit : ∀ x ∈ L, x.Fit) (hLc : L.length ≤ c1) (hc1 : c1 ≤ 9223372036854775807) (hc : c ≤ 9223372036854775807) (hr0 : Rd w (.slice A l0.length c) l0) :
    Calls Try.prog 10 #[.int .u32 (id0 : Int), .slice A1 L.length c1, .slice A l0.length c] w fun e w' => e = .returned (.bool true) ∧ Below w.heap.size w w' := by
  have hlc := hr0.cap_le
  obtain ⟨f, hl, hr⟩ := gfront l0 hr0
  obtain ⟨l, hl2, hl3, ho, hft⟩ := gfrontO L hO hfit
  have HF : Hid (∀ W, _) := fun W => gfew_any A l0.length c W hc hlc f.length hl
  have HS : Hid (∀ W, _) := fun W => gsome_any A1 L.length c1 W hc1 hLc l.length hl2
  have hf2 : f.length ≤ 10000 := by omega
  have HR := Lib.hid hr
  have HO := Lib.hid ho
  have HFT := Lib.hid hft
  have HL := Lib.hid hl3
  have hx := gxlow id0 hid0
  obtain ⟨id, hid⟩ : ∃ id, id = id0 % 16777216 := ⟨_, rfl⟩
  rw [← hid] at hx
  have hidl : id < 16777216 := by omega
  have HI : Hid (id < 16777216) := hidl
  clear hl hl2 hl3 hr hr0 hlc ho hft hO hfit hLc hc1 hc hid hid0 hidl
  generalize (id0 : Int) = z0 at *
  have HX := Lib.hid hx
  clear hx
  go_enter Try.func10, Try.ntmps10
  go_wp2_with fail
  refine (gvShown_any w).mono ?_
  rintro e w1 ⟨rfl, hb1⟩
  obtain ⟨g, gc, w2, hrun, hm, _, _, _⟩ := (Mine.first (Below.refl w1.heap.size w1)).append f (.slice A f.length c) ((HR.out.below hb1).below (below_al (Below.refl _ _) _)) (by simp; omega)
  rw [List.nil_append] at hrun hm
  have HB2 := Lib.hid (below_to hb1 hm.old hb1.size)
  have HM2 := Lib.hid hm
  have HS1 : Hid (w.heap.size ≤ w1.heap.size) := hb1.size
  have ER := Lib.hid hrun
  clear hb1 hrun hm HR
  go_upto_region 2 with fail
  go_wp2_with (fail)
  refine (HF.out _).mono ?_
  rintro e w' ⟨rfl, rfl⟩
  clear HF
  go_upto_region 3 with (at_builtin; refine wpList_append_eq rfl (.tmp 27) (.tmp 29) 23 rfl _ _ rfl rfl _ _ ER.out ?_)
  clear ER
  go_wp2_with fail
  refine (HS.out _).mono ?_
  rintro e w' ⟨rfl, rfl⟩
  clear HS
  have hx := HX.out
  have v0 := convert_rd HM2.out.rd
  have HE := Lib.hid (gencap_any id A1 l c1 _ gc f w2 (HO.out.below HB2.out) HFT.out (by have := HL.out; omega) HM2.out.rd)
  go_wp2_with fail
  clear hx v0
  refine HE.out.mono ?_
  rintro e w3 (⟨_, b, rfl, _, hb3⟩ | ⟨hcode, g3, he, hn3, ho3, hb3⟩)
  · have HB3 := Lib.hid (below_to HB2.out hb3 HB2.out.size)
    have v1 := convert_rd (HM2.out.rd.below hb3)
    clear hb3 HB2 HE
    go_wp2_with fail
    go_ret
    exact ⟨rfl, HB3.out⟩
  · obtain ⟨_, hR, k1, k2⟩ := geCode_zero hcode
    obtain ⟨N, hN⟩ : ∃ N, (gPut id l f).length = N := ⟨_, rfl⟩
    have hN2 := gPut_len id l f
    have hsz := (opRight_zero hR).2
    rw [hN] at he hN2
    subst he
    have hd := Rd.of_obj (c := (gPut id l f).length) ho3 (Nat.le_refl _)
    rw [hN] at hd
    have X3 := Lib.hid (gback HI.out hR HFT.out k1 k2 hd)
    unfold GXGood at X3
    have HM3 := Lib.hid (HM2.out.below hb3)
    have HB3 := Lib.hid (below_to HB2.out hb3 HB2.out.size)
    have HO3 := Lib.hid ho3
    have HNE := Lib.hid hN
    have HRK := Lib.hid (And.intro hR (And.intro k1 k2))
    have HN3 : Hid (g3 ≠ g ∧ w.heap.size ≤ g3 ∧ g3 < w3.heap.size) := by
      have h1 := HM2.out.row.lt
      have h2 := HB2.out.size
      exact ⟨by omega, by omega, (Array.getElem?_eq_some_iff.1 ho3).1⟩
    have hN9 : N ≤ 20000 := by omega
    clear hd hb3 ho3 hn3 hcode hR hN hN2 hsz k1 k2 HB2 HM2 HE
    go_wp2_with fail
    refine X3.out.mono ?_
    rintro e w4 ⟨sv, lx, g4, rfl, hlx, hq, hg4, hp4, hxg, _, hb4⟩
    obtain ⟨A4, c4, rfl, _, _, ho4⟩ := hq.ops
    rw [hlx] at ho4 hq ⊢
    have HM4 := Lib.hid (HM3.out.below hb4)
    have HB4 := Lib.hid (below_to HB3.out hb4 HB3.out.size)
    have HX4 := Lib.hid ((hb4.block _ (Array.getElem?_eq_some_iff.1 HO3.out).1).trans HO3.out)
    have HP4 := Lib.hid hp4
    have HQ4 := Lib.hid hq
    have HLX := Lib.hid hlx
    have HXG := Lib.hid hxg
    have HN4 : Hid (g4 ≠ g ∧ g4 ≠ g3 ∧ w.heap.size ≤ g4 ∧ g < w3.heap.size) := by
      have h1 := HM3.out.row.lt
      have h2 := HB3.out.size
      have h3 := HN3.out.2.2
      exact ⟨by omega, by omega, by omega, h1⟩
    clear hlx hq hg4 hp4 hxg hb4 ho4 HM3 HB3 HO3 X3
    go_upto_region 10 with fail
    go_loopw [15] (fun s wr => ∃ j : Nat, s = .int .i64 (j : Int) ∧ j ≤ N ∧ Ovg w4 g3 N wr) (fun s _ => N - (intOf s).toNat)
    case atStart => exact ⟨0, rfl, Nat.zero_le _, Ovg.start HX4.out HNE.out⟩
    case round =>
      obtain ⟨j, rfl, hj, hOv⟩ := hrel
      have HOv := Lib.hid hOv
      clear hOv
      by_cases hjl : j < N
      · have r1 : decide ((j : Int) < (N : Int)) = true := decide_eq_true (by omega)
        obtain ⟨v, q⟩ := HOv.out.cell hjl
        have z := HOv.out.free j
        go_wp2_with fail
        exact ⟨⟨j + 1, by simp, by omega, HOv.out.set j 255⟩, by simp [intOf]; omega⟩
      · have r1 : decide ((j : Int) < (N : Int)) = false := decide_eq_false (by omega)
        have HM5 := Lib.hid (HOv.out.row (fun e => HN3.out.1 e.symm) HM4.out.row)
        have HP5 := Lib.hid (HOv.out.other HN4.out.2.1 HP4.out)
        have HQ5 := Lib.hid (HOv.out.oq HQ4.out HN3.out.2.2)
        have HB5 := Lib.hid (below_to HB4.out (HOv.out.below HB4.out.size HN3.out.2.1) (Nat.le_refl _))
        obtain ⟨A5, c5, e5, _, _, ho5⟩ := HQ5.out.ops
        rw [HLX.out] at ho5 e5
        simp only [Value.slice.injEq, true_and] at e5
        obtain ⟨rfl, rfl⟩ := e5
        have v1 := convert_rd HM5.out.rd
        have v2 := convert_rd (Rd.of_obj (c := f.length) HP5.out (Nat.le_refl _))
        have HSm := Lib.hid (gsame_any A4 A1 l c4 c1 wr ho5 (HO.out.below HB5.out) (by have := HL.out; omega))
        clear HOv HM4 HP4 HB4 HX4 HQ4 hj ho5
        go_wp2_with fail
        clear v1 v2
        refine HSm.out.mono ?_
        rintro e w6 ⟨rfl, hb6⟩
        have HM6 := Lib.hid (HM5.out.below hb6)
        have HP6 := Lib.hid ((hb6.block _ (Array.getElem?_eq_some_iff.1 HP5.out).1).trans HP5.out)
        have HQ6 := Lib.hid (HQ5.out.below hb6)
        have HB6 := Lib.hid (below_to HB5.out hb6 HB5.out.size)
        clear hb6 HSm HM5 HP5 HQ5 HB5 r1
        have HLL : Hid (lx.length = l.length) := by show _ = _; rw [← HLX.out, List.length_map]
        have hl1 := HL.out
        go_wp2_with fail
        go_loopw [17, 18] (fun s17 _ wy => ∃ i : Nat, s17 = .int .i64 (i : Int) ∧ i ≤ l.length ∧ Wg w6 wy (GF lx) ∧ GAll w3.heap.size lx wy) (fun s17 _ _ => l.length - (intOf s17).toNat)
        case atStart => exact ⟨0, rfl, Nat.zero_le _, Wg.refl _ _, HQ6.out.all⟩
        case round =>
          obtain ⟨i, rfl, hi, hW, hG⟩ := hrel
          have HW := Lib.hid hW
          have HG := Lib.hid hG
          clear hW hG
          by_cases hil : i < l.length
          · have r1 : decide ((i : Int) < (l.length : Int)) = true := decide_eq_true (by omega)
            obtain ⟨x, hx⟩ : ∃ x, lx[i]? = some x := ⟨lx[i]'(by rw [HLL.out]; exact hil), List.getElem?_eq_getElem _⟩
            obtain ⟨X, rfl, hcx, hX1, hX2, hX3⟩ := HQ6.out.spot hx
            have HXM := Lib.hid (List.mem_of_getElem? hx)
            have HCX := Lib.hid (And.intro hcx (And.intro hX2 hX3))
            clear hx hcx hX1 hX2 hX3
            go_wp2_with fail
            go_loopw [18] (fun s18 wz => ∃ j : Nat, s18 = .int .i64 (j : Int) ∧ j ≤ x.p.b.length ∧ Wg w6 wz (GF lx) ∧ GAll w3.heap.size lx wz) (fun s18 _ => x.p.b.length - (intOf s18).toNat)
            case atStart => exact ⟨0, rfl, Nat.zero_le _, HW.out, HG.out⟩
            case round =>
              obtain ⟨j, rfl, hj, hW2, hG2⟩ := hrel
              have HW2 := Lib.hid hW2
              have HG2 := Lib.hid hG2
              have hcx := (World.cell?_of_block (a := ⟨X, i * 3 + 2, none⟩) (hW2.block X HCX.out.2.1 HCX.out.2.2)).trans HCX.out.1
              clear hW2 hG2 HW HG r1
              have r1 : decide ((i : Int) < (l.length : Int)) = true := decide_eq_true (by omega)
              by_cases hjl : j < x.p.b.length
              · have r2 : decide ((j : Int) < (x.p.b.length : Int)) = true := decide_eq_true (by omega)
                obtain ⟨gx, u, e1, e2, e3, e4⟩ := HG2.out.byte HXM.out hjl
                obtain ⟨y, hy⟩ := gxor255 u
                have HE2 := Lib.hid e2
                have HI1 : Hid (wrap64 ((j : Int) + 1) = (j : Int) + 1) := by
                  have h124 : x.p.b.length ≤ 124 := by
                    obtain ⟨m, hm⟩ := List.getElem?_of_mem (List.mem_map.2 ⟨x, HXM.out, rfl⟩ : x.p ∈ lx.map Ox.p)
                    rw [HLX.out] at hm
                    exact (opAll_get (opRight_zero HRK.out.1).1 hm).1
                  show _ = _
                  unfold wrap64
                  omega
                rw [e1] at hcx
                clear e1 e2
                go_upto_region 20 with fail
                go_region
                go_wp2_with fail
                exact ⟨⟨j + 1, by rw [HI1.out]; simp, by omega, (HW2.out.set ⟨x, HXM.out, HE2.out⟩ j _).to (below_drew _), (HG2.out.set j y).below (below_drew _)⟩, by rw [HI1.out]; simp [intOf]; omega⟩
              · have r2 : decide ((j : Int) < (x.p.b.length : Int)) = false := decide_eq_false (by omega)
                go_wp2_with fail
                exact ⟨⟨i + 1, by simp, by omega, HW2.out, HG2.out⟩, by simp [intOf]; omega⟩
          · have r1 : decide ((i : Int) < (l.length : Int)) = false := decide_eq_false (by omega)
            have hF : ∀ k, GF lx k → w3.heap.size ≤ k := fun k ⟨x, hx, hk⟩ => ((HQ6.out.own x hx).lt k hk).1
            have HPr := Lib.hid ((HW.out.block g4 (Array.getElem?_eq_some_iff.1 HP6.out).1 (fun ⟨x, hx, hk⟩ => HXG.out x hx hk)).trans HP6.out)
            have HMr := Lib.hid (HW.out.row (fun h => by have h1 := hF _ h; have h2 := HN4.out.2.2.2; omega) HM6.out)
            have HBr := Lib.hid (HW.out.base HB6.out (fun k hk => by have h1 := hF _ hk; have h2 := HN3.out.2.1; have h3 := HN3.out.2.2; omega))
            clear hF HW HG HQ6 HM6 HP6 HB6 hi r1
            go_wp2_with fail
            go_loopw [19] (fun s19 wz => ∃ j : Nat, s19 = .int .i64 (j : Int) ∧ j ≤ f.length ∧ Ovg wr g4 f.length wz) (fun s19 _ => f.length - (intOf s19).toNat)
            case atStart => exact ⟨0, rfl, Nat.zero_le _, Ovg.start HPr.out rfl⟩
            case round =>
              obtain ⟨j, rfl, hj, hOv⟩ := hrel
              have HOv := Lib.hid hOv
              clear hOv
              by_cases hjf : j < f.length
              · have r1 : decide ((j : Int) < (f.length : Int)) = true := decide_eq_true (by omega)
                obtain ⟨u, q⟩ := HOv.out.cell hjf
                have z := HOv.out.free j
                obtain ⟨y, hy⟩ := gxor255 u
                go_wp2_with fail
                exact ⟨⟨j + 1, by simp, by omega, HOv.out.set j y⟩, by simp [intOf]; omega⟩
              · have r1 : decide ((j : Int) < (f.length : Int)) = false := decide_eq_false (by omega)
                have HMs := Lib.hid (HOv.out.row (fun e => HN4.out.1 e.symm) HMr.out)
                have HBs := Lib.hid (below_to HBr.out (HOv.out.below HBr.out.size HN4.out.2.2.1) (Nat.le_refl _))
                have HE7 := Lib.hid (gencap_ok id A1 l c1 _ gc f _ HI.out (HO.out.below HBs.out) HFT.out (by have := HL.out; omega) HRK.out.1 HMs.out.rd HRK.out.2.1 HRK.out.2.2)
                unfold EGood at HE7
                rw [HNE.out] at HE7
                have hx := HX.out
                clear HOv HMr HBr HPr hj
                go_wp2_with fail
                clear hx
                refine HE7.out.mono ?_
                rintro e w8 ⟨g8, rfl, _, ho8, hb8⟩
                have hd := Rd.of_obj (c := (gPut id l f).length) ho8 (Nat.le_refl _)
                rw [HNE.out] at hd
                have X8 := Lib.hid (gback HI.out HRK.out.1 HFT.out HRK.out.2.1 HRK.out.2.2 hd)
                unfold GXGood at X8
                have HB8 := Lib.hid (below_to HBs.out hb8 HBs.out.size)
                have HM8 := Lib.hid (HMs.out.below hb8)
                clear hd ho8 hb8 HE7 HBs HMs
                go_wp2_with fail
                refine X8.out.mono ?_
                rintro e w9 ⟨sv9, lx9, g9, rfl, hlx9, hq9, _, _, _, _, hb9⟩
                obtain ⟨A9, c9, rfl, _, _, ho9⟩ := hq9.ops
                rw [hlx9] at ho9 ⊢
                have HB9 := Lib.hid (below_to HB8.out hb9 HB8.out.size)
                have v1 := convert_rd (HM8.out.below hb9).rd
                have HSm := Lib.hid (gsame_any A9 A1 l c9 c1 w9 ho9 (HO.out.below HB9.out) (by have := HL.out; omega))
                clear hlx9 hq9 hb9 ho9 HM8 HB8 X8
                go_wp2_with fail
                clear v1
                refine HSm.out.mono ?_
                rintro e w10 ⟨rfl, hb10⟩
                have HB10 := Lib.hid (below_to HB9.out hb10 HB9.out.size)
                clear hb10 HSm HB9
                go_wp2_with fail
                go_ret
                exact ⟨rfl, HB10.out⟩
end Go.Proofs.Ytnjohgfhagoppaa
