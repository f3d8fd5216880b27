/-
  What is proved: gre.Decap by contract, in words of bytes alone.
  Conditions: the bytes are fewer than 2^40.
-/
import Derived.Test.YtjnhfabgdegngaaDoorGrDec
namespace Go.Proofs.YtjnhfabgdegngaaDoor
open Go.RowKit

theorem GBox.fr {w w' : World} {G : Nat} {h : GH} {p : Addr} (b : GBox w G h) (hf : Fr (· = p) w w') (hp : p.block ≠ G) : GBox w' G h :=
  ⟨(hf.block G b.lt (fun a ha => by subst ha; exact hp)).trans b.o⟩
section
variable {A : Option Addr} {c : Nat} {bs f : List UInt8} {w : World} {h : GH}
set_option maxRecDepth 100000 in
set_option maxHeartbeats 4000000 in
theorem grdecap_in (hr : Rd w (.slice A bs.length c) bs) (hL : bs.length ≤ 1099511627776) (hf : f.length ≤ 1099511627776) (hh : ∀ p W, Rdr W p bs → Calls Tryd.prog 24 #[.pointer (some p)] W (GRYes h f p W)) (hs : h.s = true → ck bs = 0) :
    Calls Tryd.prog 8 #[.slice A bs.length c] w fun e w' => (frameWrong f.length ≠ 0 ∧ GRBad (frameWrong f.length : Nat) [grWord] w e w') ∨ (frameWrong f.length = 0 ∧ GRGood h f w e w') := by
  have H0 := Lib.hid (GDS.new w)
  have HR : Hid (∀ o, _) := fun o => Read_facts (.slice A bs.length c) bs (w.alloc o) (hr.below ((Below.refl _ _).alloc (Nat.le_refl _) o)) hL
  have HH := Lib.hid hh
  have HV : Hid (ck bs = 0 → ∀ W, Below w.heap.size w W → Calls Tryd.prog 25 #[.slice (some ⟨W.heap.size, 0, none⟩) 1 1] (W.alloc (.cells #[.slice A bs.length c] 25)) fun e w' => e = .returned (.bool true) ∧ W.alloc (.cells #[.slice A bs.length c] 25) = w') := fun hck W hW => by
    have := Valid_one (w := W) rfl (hr.below hW) hL
    rw [decide_eq_true hck] at this
    exact this
  have HS := Lib.hid hs
  have HF := Lib.hid hf
  clear hr hL hh hs hf
  unfold GRYes at HH
  go_enter Tryd.func8, Tryd.ntmps8
  go_wp2_with fail
  refine (HR.out _).mono ?_
  rintro e w1 ⟨b, rfl, hb, hr1, hB1⟩
  have H1 := Lib.hid (H0.out.below hB1)
  have hbz : w.heap.size < b := by rw [World.size_alloc] at hb; omega
  have HB := Lib.hid (And.intro hbz hr1)
  clear hb hr1 hB1 hbz H0 HR
  go_wp2_with fail
  refine (HH.out _ _ HB.out.2).mono ?_
  rintro e w2 ⟨he, hr, hf⟩
  have he' : e = .returned (.tuple #[.agg #[.bool h.s, .bool h.k, .int .u32 (h.key : Int), .bool h.q, .int .u32 (h.seq : Int)], .nilIface]) := he
  subst he'
  have H2 := Lib.hid ((H1.out.fr hf HB.out.1).below ((Below.refl _ _).alloc (Nat.le_refl _) h.obj))
  have HX := Lib.hid (GBox.new w2 h)
  have HRd := Lib.hid (hr.below ((Below.refl _ _).alloc (Nat.le_refl _) h.obj))
  have HG : Hid (w.heap.size < b ∧ b < w2.heap.size) := ⟨HB.out.1, hr.at_⟩
  clear he hr hf H1 HB HH
  go_upto_region 5 with fail
  generalize hW : w2.alloc h.obj = W at H2 HX HRd
  have hW2 : w2.alloc (.cells #[.bool h.s, .bool h.k, .int .u32 (h.key : Int), .bool h.q, .int .u32 (h.seq : Int)] 24) = W := hW
  rw [hW2]
  clear hW hW2
  generalize w2.heap.size = G at *
  obtain ⟨s, hs, c0⟩ : ∃ s, Hid (h.s = s) ∧ W.cell? ⟨G, 0, none⟩ = some (.bool s) := ⟨h.s, rfl, HX.out.c0⟩
  go_cut [29] (fun s29 wx => s29 = .bool false ∧ Below W.heap.size W wx)
  case first =>
    cases s
    · clear HV
      go_wp2_with fail
      go_meet
      exact ⟨rfl, Below.refl _ _⟩
    · have HV2 := Lib.hid (HV.out (HS.out hs.out) W H2.out.old)
      clear HV hs
      go_wp2_with fail
      refine HV2.out.mono ?_
      rintro e w' ⟨rfl, rfl⟩
      go_wp2_with fail
      go_meet
      exact ⟨rfl, (Below.refl _ _).alloc (Nat.le_refl _) _⟩
  obtain ⟨rfl, h3⟩ := hcut
  have H3 := Lib.hid (H2.out.below h3)
  have HX3 := Lib.hid (HX.out.below h3)
  have HR3 := Lib.hid (Rest_any _ f wc (HRd.out.below h3) HF.out)
  clear h3 c0 hs H2 HX HRd HV HS
  go_wp2_with fail
  refine HR3.out.mono ?_
  rintro e w4 ⟨rfl, ht⟩
  have H4 := Lib.hid (H3.out.fr ht.fr HG.out.1)
  have HX4 := Lib.hid (HX3.out.fr ht.fr (by have := HG.out.2; simp only; omega))
  have hp4 := ht.part
  rw [List.take_length] at hp4
  have HP4 := Lib.hid hp4
  have HLT : Hid (w.heap.size < wc.heap.size) := H3.out.lt
  clear ht hp4 H3 HX3 HR3
  generalize wc.heap.size = g at *
  by_cases hw : frameWrong f.length = 0
  · have HI := Lib.hid (fun W => xright_ok (some ⟨g, 0, none⟩) f.length f.length (grframe_fits hw).1 (grframe_fits hw).2 W)
    have HW := Lib.hid hw
    clear hw
    have hZ := Lib.hid H4.out.z
    obtain ⟨d0, d1, d2, d3, d4⟩ := HX4.out.cells
    go_upto_region 9 with (refine (HI.out _).mono ?_; rintro e w' ⟨rfl, rfl⟩)
    go_wp2_with (refine wpList_store_row rfl 24 (.tmp 2) (.tmp 42) rfl w.heap.size h.row rfl rfl 24 _ hZ.out grSize rfl (GH.one _) ?_)
    (try simp only [Exit.inBlock, Exit.then])
    refine bodyPost_ret (results_cell_tmp2_row rfl _ _ w.heap.size _ h.row (0, 0) _ rfl (setRow_heap _ _ _ _ _ _ hZ.out) Tryd.underlying24 rfl grSize) rfl ?_
    refine .inr ⟨HW.out, g, rfl, by have := HLT.out; omega, ?_, H4.out.row _⟩
    rw [setRow_other _ _ _ (by have := HLT.out; omega)]
    exact HP4.out
  · have HI := Lib.hid (fun W => xright_bad (some ⟨g, 0, none⟩) f.length f.length hw W)
    have HW := Lib.hid hw
    clear hw
    go_wp2_with fail
    refine (HI.out _).mono ?_
    rintro e w' ⟨rfl, rfl⟩
    go_wp2_with fail
    refine (gwrapgr _ [] _ _ _ rfl).mono ?_
    rintro e w5 ⟨b5, rfl, hc, hb⟩
    have H5 := Lib.hid (H4.out.below hb)
    have HC5 := Lib.hid hc
    have hZ := Lib.hid H5.out.z
    clear hc hb H4 HX4 HP4
    go_wp2_with (refine wpList_store_row rfl 24 (.tmp 2) (.tmp 39) rfl w.heap.size gr0.row rfl rfl 24 _ hZ.out grSize rfl (GH.one _) ?_)
    (try simp only [Exit.inBlock, Exit.then])
    refine bodyPost_ret (results_cell_tmp2_row rfl _ _ w.heap.size _ gr0.row (0, 0) _ rfl (setRow_heap _ _ _ _ _ _ hZ.out) Tryd.underlying24 rfl grSize) rfl ?_
    exact .inl ⟨HW.out, _, rfl, H5.out.bad HC5.out⟩
end
/-- What Decap tells of bytes: the header and what is behind it; the number, 0 if a frame comes out; does octets tell it? -/
def grHdr : List UInt8 → GH
  | b0 :: _ :: _ :: _ :: r => gfields (gS b0) (gK b0) (gQ b0) r
  | _ => gr0
def grLeft : List UInt8 → List UInt8
  | b0 :: _ :: _ :: _ :: r => gleft (gS b0) (gK b0) (gQ b0) r
  | _ => []
def grEnds : List UInt8 → Bool
  | b0 :: _ :: _ :: _ :: r => gends (gS b0) (gK b0) (gQ b0) r
  | _ => true
def grFirst : List UInt8 → Nat
  | b0 :: b1 :: b2 :: b3 :: _ => gCode4 b0 b1 b2 b3
  | _ => 0
def grInner (bs : List UInt8) : Bool := decide (grFirst bs = 0) && grEnds bs
def grCode (bs : List UInt8) : Nat := if grFirst bs ≠ 0 then grFirst bs else if grEnds bs = true then 2 else if (grHdr bs).s = true ∧ ck bs ≠ 0 then 4 else frameWrong (grLeft bs).length
def grNames (bs : List UInt8) : List ByteArray := if grInner bs then [grWord, octetsWord] else [grWord]
def GRDec (bs : List UInt8) (w : World) (e : Ending) (w' : World) : Prop :=
  (grCode bs ≠ 0 ∧ GRBad (grCode bs : Nat) (grNames bs) w e w') ∨ (grCode bs = 0 ∧ GRGood (grHdr bs) (grLeft bs) w e w')
theorem gleft_le (s k q : Bool) (bs : List UInt8) : (gleft s k q bs).length ≤ bs.length := Nat.le_trans (gskip_le _ _) (Nat.le_trans (gskip_le _ _) (gskip_le _ _))
theorem grdec_any {A : Option Addr} {c : Nat} {bs : List UInt8} {w : World} (hr : Rd w (.slice A bs.length c) bs) (hL : bs.length ≤ 1099511627776) : Calls Tryd.prog 8 #[.slice A bs.length c] w (GRDec bs w) := by
  by_cases h4 : bs.length < 4
  · have h0 : grFirst bs = 0 ∧ grEnds bs = true := by
      match bs, h4 with
      | [], _ => exact ⟨rfl, rfl⟩
      | [_], _ => exact ⟨rfl, rfl⟩
      | [_, _], _ => exact ⟨rfl, rfl⟩
      | [_, _, _], _ => exact ⟨rfl, rfl⟩
    have hc : grCode bs = 2 := by unfold grCode; rw [if_neg (by rw [h0.1]; decide), if_pos h0.2]
    have hn : grNames bs = [grWord, octetsWord] := by unfold grNames grInner; rw [h0.1, h0.2]; rfl
    refine (grdecap_nohead (n := 2) (l := [octetsWord]) hr hL fun p W hp => grhd_short p bs W hp h4).mono fun e w' k => .inl ⟨by rw [hc]; decide, ?_⟩
    rw [hc, hn]
    exact k
  · obtain ⟨b0, b1, b2, b3, r, rfl⟩ := grfour (by omega : 4 ≤ bs.length)
    have hany : ∀ p W, Rdr W p (b0 :: b1 :: b2 :: b3 :: r) → _ := fun p W hp => grhd_any p b0 b1 b2 b3 r W hp hL
    have hf : grFirst (b0 :: b1 :: b2 :: b3 :: r) = gCode4 b0 b1 b2 b3 := rfl
    have he : grEnds (b0 :: b1 :: b2 :: b3 :: r) = gends (gS b0) (gK b0) (gQ b0) r := rfl
    by_cases h0 : gCode4 b0 b1 b2 b3 = 0
    · by_cases h1 : gends (gS b0) (gK b0) (gQ b0) r = true
      · have hc : grCode (b0 :: b1 :: b2 :: b3 :: r) = 2 := by unfold grCode; rw [if_neg (by rw [hf, h0]; decide), if_pos (by rw [he]; exact h1)]
        have hn : grNames (b0 :: b1 :: b2 :: b3 :: r) = [grWord, octetsWord] := by unfold grNames grInner; rw [hf, he, h0, h1]; rfl
        refine (grdecap_nohead (n := 2) (l := [octetsWord]) hr hL fun p W hp => (hany p W hp).mono ?_).mono fun e w' k => .inl ⟨by rw [hc]; decide, ?_⟩
        · rintro e w' (⟨k, _⟩ | ⟨_, ⟨_, k⟩ | ⟨k, _⟩⟩)
          · exact absurd h0 k
          · exact k
          · rw [h1] at k; cases k
        · rw [hc, hn]; exact k
      · have h1' : gends (gS b0) (gK b0) (gQ b0) r = false := by simpa using h1
        have hyes : ∀ p W, Rdr W p (b0 :: b1 :: b2 :: b3 :: r) → Calls Tryd.prog 24 #[.pointer (some p)] W (GRYes (grHdr (b0 :: b1 :: b2 :: b3 :: r)) (grLeft (b0 :: b1 :: b2 :: b3 :: r)) p W) := fun p W hp => (hany p W hp).mono (by
          rintro e w' (⟨k, _⟩ | ⟨_, ⟨k, _⟩ | ⟨_, k⟩⟩)
          · exact absurd h0 k
          · rw [h1'] at k; cases k
          · exact k)
        have hn : grNames (b0 :: b1 :: b2 :: b3 :: r) = [grWord] := by unfold grNames grInner; rw [he, h1', Bool.and_false]; rfl
        by_cases h2 : (grHdr (b0 :: b1 :: b2 :: b3 :: r)).s = true ∧ ck (b0 :: b1 :: b2 :: b3 :: r) ≠ 0
        · have hc : grCode (b0 :: b1 :: b2 :: b3 :: r) = 4 := by unfold grCode; rw [if_neg (by rw [hf, h0]; decide), if_neg (by rw [he]; exact h1), if_pos h2]
          refine (grdecap_sum hr hL hyes h2.1 h2.2).mono fun e w' k => .inl ⟨by rw [hc]; decide, ?_⟩
          rw [hc, hn]; exact k
        · have hc : grCode (b0 :: b1 :: b2 :: b3 :: r) = frameWrong (grLeft (b0 :: b1 :: b2 :: b3 :: r)).length := by unfold grCode; rw [if_neg (by rw [hf, h0]; decide), if_neg (by rw [he]; exact h1), if_neg h2]
          have hll : (grLeft (b0 :: b1 :: b2 :: b3 :: r)).length ≤ 1099511627776 := by
            have := gleft_le (gS b0) (gK b0) (gQ b0) r
            have e : grLeft (b0 :: b1 :: b2 :: b3 :: r) = gleft (gS b0) (gK b0) (gQ b0) r := rfl
            rw [e]
            simp at hL
            omega
          refine (grdecap_in hr hL hll hyes (fun hs => Classical.byContradiction fun k => h2 ⟨hs, k⟩)).mono fun e w' k => ?_
          rcases k with ⟨k1, k2⟩ | ⟨k1, k2⟩
          · exact .inl ⟨by rw [hc]; exact k1, by rw [hc, hn]; exact k2⟩
          · exact .inr ⟨by rw [hc]; exact k1, k2⟩
    · have hc : grCode (b0 :: b1 :: b2 :: b3 :: r) = gCode4 b0 b1 b2 b3 := by unfold grCode; rw [if_pos (by rw [hf]; exact h0), hf]
      have hn : grNames (b0 :: b1 :: b2 :: b3 :: r) = [grWord] := by unfold grNames grInner; rw [hf, decide_eq_false h0, Bool.false_and]; rfl
      refine (grdecap_nohead (n := (gCode4 b0 b1 b2 b3 : Nat)) (l := []) hr hL fun p W hp => (hany p W hp).mono ?_).mono fun e w' k => .inl ⟨by rw [hc]; exact h0, ?_⟩
      · rintro e w' (⟨_, k⟩ | ⟨k, _⟩)
        · exact k
        · exact absurd k h0
      · rw [hc, hn]; exact k
end Go.Proofs.YtjnhfabgdegngaaDoor
