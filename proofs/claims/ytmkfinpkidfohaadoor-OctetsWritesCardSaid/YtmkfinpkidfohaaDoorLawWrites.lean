/-
  What is proved: the law OctetsWrites answers true for any puts, and leaves all older memory as it was.
  Conditions: errors.errorType holds the handle of the type error; the slices are of fewer than 2^63 elements.
-/
import Derived.Test.YtmkfinpkidfohaaDoorOne
import Derived.Deep.RegionHeldLaw
namespace Go.Proofs.YtmkfinpkidfohaaDoor
open Go.RowKit

/-- At the head of the loop that writes over the row 'g'. -/
def OverRow (w1 : World) (g n : Nat) (i : Value) (wr : World) : Prop := ∃ k : Nat, k ≤ n ∧ i = .int .i64 k ∧ Any wr g n ∧ Fr (fun a => a.block = g) w1 wr
/-- At the head of each round. -/
def WritesRel (w : World) (q : Nat) (all i : Value) (wr : World) : Prop :=
  ∃ (k : Nat) (bs : List UInt8) (row : Option Nat), k ≤ 50 ∧ bs.length ≤ 100 * k ∧ i = .int .i64 k ∧ all = .string (txt bs) ∧ One w q bs row wr
/-- Behind the switch. -/
def WritesCut (w : World) (q k : Nat) (all x : Value) (wx : World) : Prop :=
  ∃ (bs : List UInt8) (row : Option Nat), bs.length ≤ 100 * (k + 1) ∧ all = .string (txt bs) ∧ x = .pointer (some ⟨q, 0, none⟩) ∧ One w q bs row wx

set_option maxRecDepth 100000 in
set_option maxHeartbeats 8000000 in
theorem writes_any (A : Option Addr) (M c : Nat) (w : World) (hg : Hdl w) (hp : PutsAt w A M) (_hM : M ≤ c) (_hc : c ≤ 9223372036854775807) :
    Calls Tryd.prog 3 #[.slice A M c] w fun e w' => e = .returned (.bool true) ∧ Below w.heap.size w w' := by
  have HP := Lib.hid hp
  have HG := Lib.hid hg
  clear hp hg
  go_enter Tryd.func3, Tryd.ntmps3
  go_wp2_with fail
  refine (shown_any w HG.out).mono ?_
  rintro e w0 ⟨rfl, hb0⟩
  have h1 : One w w0.heap.size [] none (w0.alloc (.cells #[.slice none 0 0] 27)) := ⟨Wtr.zero (by simp) (by simp), fun k h => (by cases h), hb0.alloc hb0.size _, hb0.size⟩
  have O1 := Lib.hid h1
  clear h1 hb0
  go_wp2_with fail
  generalize w0.heap.size = q at *
  go_loopw [5, 6] (fun all i wr => WritesRel w q all i wr) (fun _ i _ => 50 - (intOf i).toNat)
  case atStart => exact ⟨0, [], none, by omega, by simp, rfl, rfl, O1.out⟩
  case round =>
    obtain ⟨k, bs, row, hk, hbl, rfl, rfl, hone⟩ := hrel
    have ON := Lib.hid hone
    clear hone O1
    by_cases hlt : k < M ∧ k < 50
    · obtain ⟨hlt1, hlt2⟩ := hlt
      obtain ⟨gP, oP, kd, n, B, ps0, cb, hA, hc0, hc1, hc2, hn0, hn1, hcbl, hrd⟩ := HP.out k hlt1
      subst hA
      have hk0 : wr.cell? ⟨gP, oP + k * 3, none⟩ = some (.int .i64 kd) := (ON.out.old.cell (World.block_lt_of_cell? w _ hc0)).trans hc0
      have hk1 : wr.cell? ⟨gP, oP + k * 3 + 1, none⟩ = some (.int .u32 n) := (ON.out.old.cell (World.block_lt_of_cell? w _ hc1)).trans hc1
      have hk2 : wr.cell? ⟨gP, oP + k * 3 + 2, none⟩ = some (.slice B ps0.length cb) := (ON.out.old.cell (World.block_lt_of_cell? w _ hc2)).trans hc2
      obtain ⟨nn, rfl⟩ := Int.eq_ofNat_of_zero_le hn0
      have hnn : nn < 4294967296 := by omega
      have HC1 := Lib.hid hc1
      have HC2 := Lib.hid hc2
      have HRD := Lib.hid hrd
      clear hc0 hc1 hc2 hrd hn0 hn1
      go_upto_block 2 with (fail)
      go_cut [5, 7] (fun all x wx => WritesCut w q k all x wx)
      case first =>
        by_cases hd1 : kd = 1
        · as_aux_lemma =>
            subst hd1
            obtain ⟨m, hm⟩ : ∃ m : Nat, m = nn % 256 := ⟨_, rfl⟩
            have hml : m < 256 := by omega
            have hmi : (nn : Int) % 256 = (m : Int) := by omega
            have HX : Hid ([UInt8.ofNat m] = [UInt8.ofNat nn]) := by
              show _ = _
              rw [List.cons.injEq]
              exact ⟨UInt8.toNat_inj.1 (by rw [ofNat_lt, ofNat_lt]; omega), rfl⟩
            clear hm
            go_wp2_with fail
            refine (WU8_any _ row bs m _ (by omega) ON.out.a (by omega)).mono ?_
            rintro e w3 ⟨rfl, hw3⟩
            obtain ⟨row3, h3, _⟩ := ON.out.put hw3
            rw [HX.out] at h3
            have hk3 : w3.cell? ⟨gP, oP + k * 3 + 1, none⟩ = some (.int .u32 (nn : Int)) := (h3.old.cell (World.block_lt_of_cell? w _ HC1.out)).trans HC1.out
            have O3 := Lib.hid h3
            clear hw3 h3 hmi
            go_wp2_with fail
            refine (refText1 nn _ hnn).mono ?_
            rintro e w4 ⟨rfl, hb4⟩
            have O4 := Lib.hid (O3.out.below hb4)
            have hss : (txt bs).size + (txt ([UInt8.ofNat nn])).size ≤ 6000 := by rw [txt_size, txt_size]; simp; omega
            clear hb4 O3 hk3
            go_wp2_with fail
            go_meet
            case rel => exact ⟨bs ++ [UInt8.ofNat nn], row3, by rw [List.length_append]; simp; omega, by rw [← txt_append], rfl, O4.out⟩
        · skip
          by_cases hd2 : kd = 2
          · as_aux_lemma =>
              subst hd2
              obtain ⟨m, hm⟩ : ∃ m : Nat, m = nn % 65536 := ⟨_, rfl⟩
              have hml : m < 65536 := by omega
              have hmi : (nn : Int) % 65536 = (m : Int) := by omega
              have HX : Hid (be2 m = be2 nn) := by
                show _ = _
                simp only [be2, List.cons.injEq, and_true]
                exact ⟨UInt8.toNat_inj.1 (by rw [ofNat_lt, ofNat_lt]; omega), UInt8.toNat_inj.1 (by rw [ofNat_lt, ofNat_lt]; omega)⟩
              clear hm
              go_wp2_with fail
              refine (WU16_any _ row bs m _ (by omega) ON.out.a (by omega)).mono ?_
              rintro e w3 ⟨rfl, hw3⟩
              obtain ⟨row3, h3, _⟩ := ON.out.put hw3
              rw [HX.out] at h3
              have hk3 : w3.cell? ⟨gP, oP + k * 3 + 1, none⟩ = some (.int .u32 (nn : Int)) := (h3.old.cell (World.block_lt_of_cell? w _ HC1.out)).trans HC1.out
              have O3 := Lib.hid h3
              clear hw3 h3 hmi
              go_wp2_with fail
              refine (refText2 nn _ hnn).mono ?_
              rintro e w4 ⟨rfl, hb4⟩
              have O4 := Lib.hid (O3.out.below hb4)
              have hss : (txt bs).size + (txt (be2 nn)).size ≤ 6000 := by rw [txt_size, txt_size]; simp [be2]; omega
              clear hb4 O3 hk3
              go_wp2_with fail
              go_meet
              case rel => exact ⟨bs ++ be2 nn, row3, by rw [List.length_append]; simp [be2]; omega, by rw [← txt_append], rfl, O4.out⟩
          · skip
            by_cases hd3 : kd = 3
            · as_aux_lemma =>
                subst hd3
                go_wp2_with fail
                refine (WU32_any _ row bs nn _ (by omega) ON.out.a (by omega)).mono ?_
                rintro e w3 ⟨rfl, hw3⟩
                obtain ⟨row3, h3, _⟩ := ON.out.put hw3
                have hk3 : w3.cell? ⟨gP, oP + k * 3 + 1, none⟩ = some (.int .u32 (nn : Int)) := (h3.old.cell (World.block_lt_of_cell? w _ HC1.out)).trans HC1.out
                have O3 := Lib.hid h3
                clear hw3 h3
                go_wp2_with fail
                refine (refText4 nn _ hnn).mono ?_
                rintro e w4 ⟨rfl, hb4⟩
                have O4 := Lib.hid (O3.out.below hb4)
                have hss : (txt bs).size + (txt (be4 nn)).size ≤ 6000 := by rw [txt_size, txt_size]; simp [be4]; omega
                clear hb4 O3 hk3
                go_wp2_with fail
                go_meet
                case rel => exact ⟨bs ++ be4 nn, row3, by rw [List.length_append]; simp [be4]; omega, by rw [← txt_append], rfl, O4.out⟩
            · skip
              by_cases hd4 : kd = 4
              · as_aux_lemma =>
                  subst hd4
                  have hlc : ps0.length ≤ cb := by obtain ⟨A', c', e, h, _⟩ := HRD.out; cases e; exact h
                  obtain ⟨K, hK⟩ : ∃ K, K = min ps0.length 100 := ⟨_, rfl⟩
                  have hK1 : K ≤ ps0.length := by omega
                  have hK2 : K ≤ 100 := by omega
                  have hK3 : K ≤ cb := by omega
                  have hmin := fun W => min_run (P := Tryd.prog) #[3, 3] 3 (ps0.length : Int) 100 (K : Int) (by omega) W
                  obtain ⟨ps, hps⟩ : ∃ ps, ps = ps0.take K := ⟨_, rfl⟩
                  have hpl : ps.length = K := by rw [hps, List.length_take]; omega
                  have hrp : Rd w (.slice B K cb) ps := by
                    obtain ⟨A', c', e, h, hcell⟩ := HRD.out
                    cases e
                    refine ⟨B, cb, by rw [hpl], by omega, fun h0 => ?_⟩
                    obtain ⟨g, o, e, hi⟩ := hcell (by omega)
                    refine ⟨g, o, e, fun i u hu => hi i u ?_⟩
                    rw [hps, List.getElem?_take] at hu
                    split at hu
                    · exact hu
                    · cases hu
                  have hO2 : One w q bs row (wr.alloc (.cells #[] 5)).drew := (ON.out.below ((Below.refl _ _).alloc (Nat.le_refl _) _)).below (Below.refl _ _).drew
                  have hrow : Row (wr.alloc (.cells #[] 5)).drew wr.heap.size 0 [] := ⟨⟨#[], heap_alloc_new wr _, rfl, rfl⟩, Nat.le_refl _⟩
                  have hk2a : (wr.alloc (.cells #[] 5)).drew.cell? ⟨gP, oP + k * 3 + 2, none⟩ = some (.slice B ps0.length cb) := (hO2.old.cell (World.block_lt_of_cell? w _ HC2.out)).trans HC2.out
                  have hk2b : (wr.alloc (.cells #[] 5)).cell? ⟨gP, oP + k * 3 + 2, none⟩ = some (.slice B ps0.length cb) := hk2a
                  have hk2c : wr.drew.cell? ⟨gP, oP + k * 3 + 2, none⟩ = some (.slice B ps0.length cb) := hk2
                  obtain ⟨g, gc, w3, hrun, hrow3, hgr, hgat⟩ := append_row hrow (by simp [maxLen]) ps (.slice B K cb) (hrp.below hO2.old) (by rw [hpl]; simp; omega)
                  rw [List.nil_append, hpl] at hrun
                  rw [List.nil_append] at hrow3
                  have hql : q < wr.heap.size := ON.out.a.at_
                  have hrl := ON.out.a.row_lt
                  have hg0 : wr.heap.size ≤ g := by
                    rcases hgat with e | e
                    · omega
                    · have e' : g = (wr.alloc (.cells #[] 5)).heap.size := e; rw [World.size_alloc] at e'; omega
                  have hO3 : One w q bs row w3 := by
                    refine ⟨hO2.a.fr (q := fun a => a.block = wr.heap.size) ⟨hgr.os, hgr.tape, hgr.output, hgr.size, fun a ha hn => World.cell?_of_block (hgr.block a.block ha (fun e => hn (Option.some.inj e))), fun a ha hn => World.frozen?_of_block (hgr.block a.block ha (fun e => hn (Option.some.inj e))), fun j hj hn => hgr.block j hj (fun e => hn ⟨j, 0, none⟩ (Option.some.inj e) rfl)⟩ (fun e => by have e' : q = wr.heap.size := e; omega) (fun a j hj e he => by have e' : a.block = wr.heap.size := e; have := hrl j hj; omega), hO2.lo, hO2.old.grown hgr hO2.old.size (fun j hj => by cases hj; exact ON.out.old.size), hO2.q⟩
                  have hk2d : w3.cell? ⟨gP, oP + k * 3 + 2, none⟩ = some (.slice B ps0.length cb) := (hO3.old.cell (World.block_lt_of_cell? w _ HC2.out)).trans HC2.out
                  clear HC2
                  have hgl : g < w3.heap.size := by obtain ⟨cur, h1, _⟩ := hrow3.ex; exact (Array.getElem?_eq_some_iff.1 h1).1
                  have hrg : row ≠ some g := fun e => by have := hrl g e; omega
                  have hwg : w.heap.size ≤ g := by have := ON.out.old.size; omega
                  have ER := Lib.hid hrun
                  have RW := Lib.hid hrow3
                  have O3 := Lib.hid hO3
                  have PL := Lib.hid hpl
                  clear hO2 hrow hrun hrow3 hgr hgat hO3 hps hpl hrp hK ON hrl
                  generalize ps0.length = L0 at *
                  go_wp2_with fail
                  go_cut [8] (fun v wx => v = .slice (some ⟨g, 0, none⟩) K gc ∧ w3 = wx)
                  case first =>
                    go_region_held_law (fun W => W.cell? ⟨gP, oP + k * 3 + 2, none⟩ = some (.slice B L0 cb)) (first | exact hk2c | exact hk2a | exact hk2d) (refine step_append_to rfl (.tmp 88) (.tmp 101) 25 rfl (.slice (some ⟨wr.heap.size, 0, none⟩) 0 0) (.slice B K cb) (by rfl) (by rfl) _ _ ER.out 102 rfl ?_)
                    all_goals (go_wp2_with fail)
                    all_goals (go_meet; exact ⟨rfl, rfl⟩)
                  obtain ⟨rfl, rfl⟩ := hcut
                  go_wp2_with fail
                  have hrd3 : Rd w3 (.slice (some ⟨g, 0, none⟩) K gc) ps := by have := RW.out.rd; rwa [PL.out] at this
                  refine (WBytes_any _ row bs ps _ _ O3.out.a hrd3 (by rw [PL.out]; omega)).mono ?_
                  rintro e w4 ⟨rfl, hw4⟩
                  obtain ⟨row4, h4, hl4⟩ := O3.out.put hw4
                  have hr4 : row4 ≠ some g := by
                    rcases hl4 with e | ⟨j, e, hj⟩
                    · rw [e]; exact hrg
                    · rw [e]; intro e'; injection e' with e'; omega
                  have hrow4 : Row w4 g gc ps := by
                    obtain ⟨cur, h1, h2, h5⟩ := RW.out.ex
                    obtain ⟨_, _, _, hf⟩ := hw4
                    refine ⟨⟨cur, ?_, h2, h5⟩, RW.out.fits⟩
                    rw [hf.block g hgl (fun a ha e => ?_)]
                    · exact h1
                    · rcases ha with ha | ha
                      · subst ha; have e' : q = g := e; omega
                      · exact hrg (by rw [← ha, e])
                  have hrd4 : Rd w4 (.slice (some ⟨g, 0, none⟩) K gc) ps := by have := hrow4.rd; rwa [PL.out] at this
                  have hcv := convert_rd hrd4
                  have AN : Hid (Any w4 g K) := by obtain ⟨cur, h1, h2, _⟩ := hrow4.ex; exact ⟨cur, h1, by have := hrow4.fits; rw [PL.out] at this; omega⟩
                  have hss : (txt bs).size + (txt ps).size ≤ 6000 := by rw [txt_size, txt_size, PL.out]; omega
                  have O4 := Lib.hid h4
                  clear hrd3 hw4 h4 hl4 hrow4 hrd4 O3 RW ER hmin hk2a hk2b hk2c hk2d
                  go_wp2_with fail
                  clear hcv
                  go_loopw [9] (fun i wz => OverRow w4 g K i wz) (fun i _ => K - (intOf i).toNat)
                  case atStart => exact ⟨0, by omega, rfl, AN.out, Fr.refl _ _⟩
                  case round =>
                    obtain ⟨kk, hkk, rfl, han, hfr⟩ := hrel
                    have AN2 := Lib.hid han
                    have FR := Lib.hid hfr
                    clear han hfr
                    by_cases hlk : kk < K
                    · obtain ⟨⟨v, hv⟩, hfz⟩ := AN2.out.cell hlk
                      go_wp2_with fail
                      go_roundw
                      case rel => exact ⟨kk + 1, by omega, by go_num, AN2.out.set _ _, FR.out.set _ _ rfl⟩
                      case measure => simp [intOf]; omega
                    · have O6 := Lib.hid (O4.out.over FR.out (by omega) hr4 hwg)
                      clear AN AN2 FR
                      go_wp2_with fail
                      go_meet
                      case rel => exact ⟨bs ++ ps, row4, by rw [List.length_append, PL.out]; omega, by rw [← txt_append], rfl, O6.out⟩
              · as_aux_lemma =>
                  go_wp2_with fail
                  go_meet
                  case rel => exact ⟨bs, row, by omega, rfl, rfl, ON.out⟩
      case rest =>
        as_aux_lemma =>
          obtain ⟨cs, rowc, hcl, rfl, rfl, hone⟩ := hcut
          have O5 := Lib.hid hone
          have hinfo : (Tryd.prog.info? 27).isSome = true := by kernel_rfl
          obtain ⟨ti, hti⟩ := Option.isSome_iff_exists.1 hinfo
          have hpn := fun W : World => Lib.run_neq_ptr_same (P := Tryd.prog) (w := W) ⟨q, 0, none⟩ Tryd.underlying24 hti
          clear hone ON HC1 hk0 hk1 hk2 HRD hinfo hti
          go_wp2_with fail
          refine (WDone_any _ rowc cs _ O5.out.a (by omega)).mono ?_
          rintro e w6 ⟨he, hw6⟩
          obtain ⟨g, hgq⟩ : ∃ g, g = wc.heap.size := ⟨_, rfl⟩
          obtain ⟨n6, hn6⟩ : ∃ n6, n6 = cs.length := ⟨_, rfl⟩
          have he' : e = .returned (.slice (some ⟨g, 0, none⟩) n6 n6) := by rw [he, hgq, hn6]
          subst he'
          obtain ⟨hrd6, hb6⟩ := done_facts hw6
          have hcv : (convert 25 9 (.slice (some ⟨g, 0, none⟩) n6 n6)).run Tryd.prog w6 = .ok (.string (txt cs)) w6 := by rw [hgq, hn6]; exact convert_rd hrd6
          have hsn := fun W : World => Lib.run_eql_slice_nil (P := Tryd.prog) W 25 5 (some ⟨g, 0, none⟩) n6 n6 0 0 Tryd.underlying25
          have AN : Hid (Any w6 g n6) := by
            refine ⟨(cs.map B8).toArray, ?_, by simp [hn6]⟩
            rw [← hw6, hgq]
            exact bytesObj_new wc cs
          have hrg : rowc ≠ some g := fun e => by have := O5.out.a.row_lt g e; omega
          have hqg : q ≠ g := by have h7 : q < wc.heap.size := O5.out.a.at_; omega
          have hwg : w.heap.size ≤ g := by have := O5.out.old.size; omega
          have O6 := Lib.hid (O5.out.below hb6)
          have hn7 : n6 ≤ 6000 := by omega
          clear he hw6 hrd6 hb6 hgq hn6 O5
          go_wp2_with fail
          clear hcv hpn hsn
          go_loopw [11] (fun i wz => OverRow w6 g n6 i wz) (fun i _ => n6 - (intOf i).toNat)
          case atStart => exact ⟨0, by omega, rfl, AN.out, Fr.refl _ _⟩
          case round =>
            obtain ⟨kk, hkk, rfl, han, hfr⟩ := hrel
            have AN2 := Lib.hid han
            have FR := Lib.hid hfr
            clear han hfr
            by_cases hlk : kk < n6
            · obtain ⟨⟨v, hv⟩, hfz⟩ := AN2.out.cell hlk
              go_wp2_with fail
              go_roundw
              case rel => exact ⟨kk + 1, by omega, by go_num, AN2.out.set _ _, FR.out.set _ _ rfl⟩
              case measure => simp [intOf]; omega
            · have O7 := Lib.hid (O6.out.over FR.out hqg hrg hwg)
              clear AN AN2 FR
              go_wp2_with fail
              exact ⟨⟨k + 1, cs, rowc, by omega, hcl, by go_num, rfl, O7.out⟩, by simp [intOf]; omega⟩
    · by_cases hkM : k < M
      · as_aux_lemma =>
          have hk50 : ¬ k < 50 := fun h => hlt ⟨hkM, h⟩
          clear hlt
          go_wp2_with fail
          refine (WDone_any _ row bs _ ON.out.a (by omega)).mono ?_
          rintro e w6 ⟨rfl, hw6⟩
          obtain ⟨hrd6, hb6⟩ := done_facts hw6
          have hcv := convert_rd hrd6
          have BE := Lib.hid (ON.out.below hb6).old
          clear hw6 hrd6 hb6
          go_wp2_with fail
          go_ret
          exact ⟨rfl, BE.out⟩
      · as_aux_lemma =>
          clear hlt
          go_wp2_with fail
          refine (WDone_any _ row bs _ ON.out.a (by omega)).mono ?_
          rintro e w6 ⟨rfl, hw6⟩
          obtain ⟨hrd6, hb6⟩ := done_facts hw6
          have hcv := convert_rd hrd6
          have BE := Lib.hid (ON.out.below hb6).old
          clear hw6 hrd6 hb6
          go_wp2_with fail
          go_ret
          exact ⟨rfl, BE.out⟩
end Go.Proofs.YtmkfinpkidfohaaDoor
