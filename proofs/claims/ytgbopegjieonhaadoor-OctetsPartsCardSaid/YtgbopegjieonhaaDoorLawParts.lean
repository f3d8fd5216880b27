/-
  What is proved: the law OctetsParts answers true for any bytes and sizes, and leaves all older memory as it was.
  Conditions: errors.errorType holds the handle of the type error; the slices are of fewer than 2^63 elements.
-/
import Derived.Test.YtgbopegjieonhaaDoorShown
import Derived.Deep.RegionHeld
import Derived.LoopTactic
namespace Go.Proofs.YtgbopegjieonhaaDoor
open Go.RowKit

/-- What holds at the head of each round. -/
def PartsRel (w : World) (p : Addr) (bs : List UInt8) (v i : Value) (wr : World) : Prop :=
  ∃ (k j : Nat), k ≤ 40 ∧ j ≤ bs.length ∧ i = .int .i64 k ∧ v = .string (txt (bs.take j)) ∧ Rdr wr p (bs.drop j) ∧ Below w.heap.size w wr

set_option maxRecDepth 100000 in
set_option maxHeartbeats 4000000 in
theorem parts_any (A : Option Addr) (c : Nat) (bs0 ss : List UInt8) (A2 : Option Addr) (c2 : Nat) (w : World) (hg : Hdl w) (hb : Rd w (.slice A bs0.length c) bs0) (hs : Rd w (.slice A2 ss.length c2) ss) (_hc : c ≤ 9223372036854775807) (_hc2 : c2 ≤ 9223372036854775807) :
    Calls Tryd.prog 6 #[.slice A bs0.length c, .slice A2 ss.length c2] w fun e w' => e = .returned (.bool true) ∧ Below w.heap.size w w' := by
  obtain ⟨K, hk⟩ : ∃ k, k = min bs0.length 200 := ⟨_, rfl⟩
  have hlc : bs0.length ≤ c := by obtain ⟨A', c', e, h, _⟩ := hb; cases e; exact h
  have hlc2 : ss.length ≤ c2 := by obtain ⟨A', c', e, h, _⟩ := hs; cases e; exact h
  have hk1 : K ≤ bs0.length := by omega
  have hk2 : K ≤ 200 := by omega
  have hmin := fun W => min_run (P := Tryd.prog) #[3, 3] 3 (bs0.length : Int) 200 (K : Int) (by omega) W
  obtain ⟨bs, hbs⟩ : ∃ bs, bs = bs0.take K := ⟨_, rfl⟩
  have hlen : bs.length = K := by rw [hbs, List.length_take]; omega
  have hrb : Rd w (.slice A K c) bs := by
    obtain ⟨A', c', e, h, hcell⟩ := hb
    cases e
    refine ⟨A, c, by rw [hlen], by omega, fun h0 => ?_⟩
    obtain ⟨g, o, e, hi⟩ := hcell (by omega)
    refine ⟨g, o, e, fun i u hu => hi i u ?_⟩
    rw [hbs, List.getElem?_take] at hu
    split at hu
    · exact hu
    · cases hu
  have hsc : ∀ k, k < ss.length → ∃ g o u, A2 = some ⟨g, o, none⟩ ∧ ss[k]? = some u ∧ w.cell? ⟨g, o + k, none⟩ = some (B8 u) := by
    intro k hk
    obtain ⟨A', c', e, h, hcell⟩ := hs
    cases e
    obtain ⟨g, o, e, hi⟩ := hcell (by omega)
    exact ⟨g, o, ss[k], e, List.getElem?_eq_getElem hk, hi k _ (List.getElem?_eq_getElem hk)⟩
  have HB := Lib.hid hrb
  have HS := Lib.hid hsc
  have HG := Lib.hid hg
  clear hb hs hg hk hrb hsc
  generalize hL : bs0.length = L at *
  generalize hM : ss.length = M at *
  have HL := Lib.hid hlen
  clear hL hM hbs hlen
  go_enter Tryd.func6, Tryd.ntmps6
  go_wp2_with fail
  refine (shown_any w HG.out).mono ?_
  rintro e w0 ⟨rfl, hb0⟩
  have B0 := Lib.hid hb0
  clear hb0
  go_wp2_with fail
  refine (Read_facts _ bs _ (HB.out.below B0.out) (by rw [HL.out]; omega)).mono ?_
  rintro e w1 ⟨r, rfl, hr, rr1, b1⟩
  have B1 := Lib.hid (below_to B0.out b1 B0.out.size)
  have R1 := Lib.hid rr1
  have hr1 : w.heap.size ≤ r := by have := B0.out.size; omega
  clear rr1 b1 hr B0 hmin
  go_wp2_with fail
  go_loopw [7, 8] (fun v i wr => PartsRel w ⟨r, 0, none⟩ bs v i wr) (fun _ i _ => 40 - (intOf i).toNat)
  case atStart => exact ⟨0, 0, by omega, by omega, rfl, rfl, R1.out, B1.out⟩
  case round =>
    obtain ⟨k, j, hk, hj, rfl, rfl, hrd, hbw⟩ := hrel
    have hjK : j ≤ K := by rw [HL.out] at hj; exact hj
    have hdl : (bs.drop j).length = K - j := by rw [List.length_drop, HL.out]
    have htl : (txt (bs.take j)).size = j := by rw [txt_size, List.length_take, HL.out]; omega
    have RR := Lib.hid hrd
    have BB := Lib.hid hbw
    have HD := Lib.hid hdl
    have HT := Lib.hid htl
    clear hrd hbw hdl htl B1 R1 hj
    by_cases hlt : k < M ∧ k < 40
    · obtain ⟨hlt1, hlt2⟩ := hlt
      obtain ⟨g, o, u, hA2, hu, hcell⟩ := HS.out k hlt1
      subst hA2
      have hcw : wr.cell? ⟨g, o + k, none⟩ = some (.int .u8 (u.toNat : Int)) := (BB.out.cell (World.block_lt_of_cell? w _ hcell)).trans hcell
      clear hcell hu
      have hul := u.toNat_lt
      obtain ⟨n, hn⟩ : ∃ n : Nat, n = u.toNat % 21 := ⟨_, rfl⟩
      have hnl : n ≤ 20 := by omega
      have hni : (u.toNat : Int) % 21 = (n : Int) := by omega
      clear hn
      obtain ⟨D, hD⟩ : ∃ D : Nat, D = K - j := ⟨_, rfl⟩
      have hD1 : D + j ≤ K := by omega
      have hD2 : K ≤ D + j := by omega
      have HE : Hid ((bs.drop j).length = D) := by show _ = _; rw [HD.out, hD]
      clear hD HD
      go_wp2_with fail
      refine (left_any _ _ _ RR.out).mono ?_
      rintro e w' ⟨he, rfl⟩
      have he' : e = .returned (.int .i64 (D : Int)) := by rw [he, HE.out]
      subst he'
      clear he
      go_wp2_with fail
      by_cases hnD : n ≤ D
      · refine (Bytes_ok _ _ n _ RR.out (by rw [HE.out]; exact hnD) (by rw [HE.out]; omega)).mono ?_
        rintro e w2 ⟨rfl, htk⟩
        have hrd2 : Rdr w2 ⟨r, 0, none⟩ (bs.drop (j + n)) := by have := htk.rdr; rwa [List.drop_drop] at this
        have hln : ((bs.drop j).take n).length = n := by rw [List.length_take, HE.out]; omega
        have hrdp : Rd w2 (.slice (some ⟨wr.heap.size, 0, none⟩) n n) ((bs.drop j).take n) := by
          have := Rd.of_obj (c := n) htk.part (by omega)
          rwa [hln] at this
        have hcv := convert_rd hrdp
        have hb2 := below_to BB.out (htk.fr.below (B := w.heap.size) BB.out.size (fun x hx => by subst hx; exact hr1)) (Nat.le_refl _)
        have hss : (txt (bs.take j)).size + (txt ((bs.drop j).take n)).size ≤ 200 := by rw [HT.out, txt_size, hln]; omega
        have hsz : (txt (bs.take j) ++ txt ((bs.drop j).take n)).size = j + n := by rw [txt_append, txt_size, List.length_append, hln, ← txt_size, HT.out]
        have HTX : Hid (txt (bs.take j) ++ txt ((bs.drop j).take n) = txt (bs.take (j + n))) := by show _ = _; rw [txt_append, List.take_add]
        obtain ⟨D2, hDD⟩ : ∃ D2 : Nat, D2 = D - n := ⟨_, rfl⟩
        have hD3 : D2 + (j + n) ≤ K := by omega
        have hD4 : K ≤ D2 + (j + n) := by omega
        have HE2 : Hid ((bs.drop (j + n)).length = D2) := by show _ = _; rw [List.length_drop, HL.out]; omega
        have R2 := Lib.hid hrd2
        have B2 := Lib.hid hb2
        clear hrd2 hrdp hb2 hln htk hDD
        go_wp2_with fail
        refine (left_any _ _ _ R2.out).mono ?_
        rintro e w' ⟨he, rfl⟩
        have he' : e = .returned (.int .i64 (D2 : Int)) := by rw [he, HE2.out]
        subst he'
        clear he
        by_cases h0 : D2 = 0
        · have hnil : Hid (bs.drop (j + n) = []) := List.eq_nil_of_length_eq_zero (by rw [HE2.out, h0])
          have R3 : Hid (Rdr w2 ⟨r, 0, none⟩ []) := by have := R2.out; rw [hnil.out] at this; exact this
          subst h0
          have hq1 : (((j + n : Nat) : Int) == (K : Int)) = true := by rw [beq_iff_eq]; omega
          have hq2 : ((j : Int) + (n : Int) == (K : Int)) = true := by rw [beq_iff_eq]; omega
          go_wp2_with fail
          refine (done_nil _ _ R3.out).mono ?_
          rintro e w' ⟨rfl, rfl⟩
          go_wp2_with fail
          exact ⟨⟨k + 1, j + n, by omega, by rw [HL.out]; omega, by go_num, by rw [HTX.out], R2.out, B2.out⟩, by simp [intOf]; omega⟩
        · have h1 : 0 < D2 := by omega
          go_wp2_with fail
          refine (done_some _ _ _ R2.out (by rw [HE2.out]; exact h1)).mono ?_
          rintro e w3 ⟨rfl, hw3⟩
          obtain ⟨_, hb3⟩ := wrong_facts 3 octetsWord hw3
          have R3 := Lib.hid (R2.out.below hb3)
          have B3 := Lib.hid (below_to B2.out hb3 B2.out.size)
          clear hb3 hw3
          go_wp2_with fail
          go_roundw
          case rel => exact ⟨k + 1, j + n, by omega, by rw [HL.out]; omega, by go_num, by rw [HTX.out], R3.out, B3.out⟩
          case measure => simp [intOf]; omega
      · refine (Bytes_short _ _ n _ RR.out (by rw [HE.out]; omega)).mono ?_
        rintro e w2 ⟨rfl, hw2⟩
        obtain ⟨hch, hb2⟩ := wrong_facts 2 octetsWord hw2
        have C2 := Lib.hid hch
        have R2 := Lib.hid (RR.out.below hb2)
        have B2 := Lib.hid (below_to BB.out hb2 BB.out.size)
        clear hch hb2 hw2
        go_wp2_with fail
        refine (code_any 2 _ _ _ (HG.out.below B2.out) C2.out).mono ?_
        rintro e w3 ⟨rfl, hb3⟩
        have R3 := Lib.hid (R2.out.below hb3)
        have B3 := Lib.hid (below_to B2.out hb3 B2.out.size)
        clear hb3 R2 B2 C2
        go_wp2_with fail
        refine (left_any _ _ _ R3.out).mono ?_
        rintro e w' ⟨he, rfl⟩
        have he' : e = .returned (.int .i64 (D : Int)) := by rw [he, HE.out]
        subst he'
        clear he
        have hcv := convert_rd (Rd.nil w3)
        have hemp : txt (bs.take j) ++ txt [] = txt (bs.take j) := by rw [txt_append, List.append_nil]
        have hss : (txt (bs.take j)).size + (txt []).size ≤ 200 := by rw [HT.out, txt_size]; simp; omega
        have hsz := HT.out
        go_wp2_with fail
        refine (left_any _ _ _ R3.out).mono ?_
        rintro e w' ⟨he, rfl⟩
        have he' : e = .returned (.int .i64 (D : Int)) := by rw [he, HE.out]
        subst he'
        clear he
        by_cases h0 : D = 0
        · have hnil : Hid (bs.drop j = []) := List.eq_nil_of_length_eq_zero (by rw [HE.out, h0])
          have R4 : Hid (Rdr w3 ⟨r, 0, none⟩ []) := by have := R3.out; rw [hnil.out] at this; exact this
          subst h0
          have hq1 : ((j : Int) == (K : Int)) = true := by rw [beq_iff_eq]; omega
          go_wp2_with fail
          refine (done_nil _ _ R4.out).mono ?_
          rintro e w' ⟨rfl, rfl⟩
          go_wp2_with fail
          exact ⟨⟨k + 1, j, by omega, by rw [HL.out]; omega, by go_num, rfl, R3.out, B3.out⟩, by simp [intOf]; omega⟩
        · have h1 : 0 < D := by omega
          go_wp2_with fail
          refine (done_some _ _ _ R3.out (by rw [HE.out]; exact h1)).mono ?_
          rintro e w4 ⟨rfl, hw4⟩
          obtain ⟨_, hb4⟩ := wrong_facts 3 octetsWord hw4
          have R4 := Lib.hid (R3.out.below hb4)
          have B4 := Lib.hid (below_to B3.out hb4 B3.out.size)
          clear hb4 hw4
          go_wp2_with fail
          go_roundw
          case rel => exact ⟨k + 1, j, by omega, by rw [HL.out]; omega, by go_num, rfl, R4.out, B4.out⟩
          case measure => simp [intOf]; omega
    · have hcat : txt (bs.take j) ++ txt (bs.drop j) = txt bs := by rw [txt_append, List.take_append_drop]
      have hss : (txt (bs.take j)).size + (txt (bs.drop j)).size ≤ 200 := by rw [HT.out, txt_size, HD.out]; omega
      obtain ⟨D, hD⟩ : ∃ D : Nat, D = (bs.drop j).length := ⟨_, rfl⟩
      have HDD := Lib.hid hD
      have HBw := Lib.hid (HB.out.below BB.out)
      have HSS := Lib.hid (convert_rd (HBw.out.below (Below.refl _ _).drew))
      have HRest : Hid (∀ W : World, Below wr.heap.size wr W → Calls Tryd.prog 17 #[.pointer (some ⟨r, 0, none⟩)] W fun e w' => e = .returned (.slice (some ⟨W.heap.size, 0, none⟩) D D) ∧ (convert 22 9 (.slice (some ⟨W.heap.size, 0, none⟩) D D)).run Tryd.prog w' = .ok (.string (txt (bs.drop j))) w' ∧ (convert 22 9 (.slice A K c)).run Tryd.prog w' = .ok (.string (txt bs)) w' ∧ Rdr w' ⟨r, 0, none⟩ [] ∧ Below w.heap.size w w') := by
        intro W hW
        have hRW := RR.out.below hW
        refine (Rest_any _ _ W hRW (by rw [HD.out]; omega)).mono ?_
        rintro e w2 ⟨rfl, htk⟩
        have h1 := htk.rdr
        rw [List.drop_length] at h1
        have h2 := htk.part
        rw [List.take_length] at h2
        rw [hD]
        refine ⟨rfl, convert_rd (Rd.of_obj h2 (Nat.le_refl _)), convert_rd ((HBw.out.below hW).fr htk.fr (fun x u hu e => hRW.not_byte u (by rw [← e]; exact hu))), h1, ?_⟩
        exact below_to (below_to BB.out hW BB.out.size) (htk.fr.below (B := w.heap.size) (below_to BB.out hW BB.out.size).size (fun x hx => by subst hx; exact hr1)) (Nat.le_refl _)
      clear hD HDD HL HT HD RR HS HB HBw
      by_cases hkM : k < M
      · have hk40 : ¬ k < 40 := fun h => hlt ⟨hkM, h⟩
        clear hlt
        go_wp2_with fail
        go_region_held (fun W => (convert 22 9 (.slice A K c)).run Tryd.prog W = .ok (.string (txt bs)) W) (first | assumption | exact HSS.out) (first | (go_at_call 17; refine (HRest.out _ ?_).mono ?_; (exact (Below.refl _ _).drew); rintro e w2 ⟨rfl, hcv, hS2, hr2, hb2⟩; (simp only [World.size_drew] at hcv); (have R2 := Lib.hid hr2); (have B2 := Lib.hid hb2); clear hr2 hb2) | (go_at_call 20; refine (left_any _ [] _ R2.out).mono ?_; rintro e w' ⟨rfl, rfl⟩) | (go_at_call 18; refine (done_nil _ _ R2.out).mono ?_; rintro e w' ⟨rfl, rfl⟩))
        go_wp2_with fail
        go_ret
        exact ⟨rfl, B2.out⟩
      · clear hlt
        go_wp2_with fail
        go_region_held (fun W => (convert 22 9 (.slice A K c)).run Tryd.prog W = .ok (.string (txt bs)) W) (first | assumption | exact HSS.out) (first | (go_at_call 17; refine (HRest.out _ ?_).mono ?_; (exact (Below.refl _ _).drew); rintro e w2 ⟨rfl, hcv, hS2, hr2, hb2⟩; (simp only [World.size_drew] at hcv); (have R2 := Lib.hid hr2); (have B2 := Lib.hid hb2); clear hr2 hb2) | (go_at_call 20; refine (left_any _ [] _ R2.out).mono ?_; rintro e w' ⟨rfl, rfl⟩) | (go_at_call 18; refine (done_nil _ _ R2.out).mono ?_; rintro e w' ⟨rfl, rfl⟩))
        go_wp2_with fail
        go_ret
        exact ⟨rfl, B2.out⟩
end Go.Proofs.YtgbopegjieonhaaDoor
