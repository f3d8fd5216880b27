/-
  What is proved: the law GreTells answers true for any header and bytes, and leaves all older memory as it was.
  Conditions: errors.errorType holds the handle of the type error; the slice is of fewer than 2^63 bytes.
-/
import Derived.Test.YtjnhfabgdegngaaDoorGrRefG
namespace Go.Proofs.YtjnhfabgdegngaaDoor
open Go.RowKit

theorem gtfront {w : World} {A : Option Addr} {c : Nat} (l0 : List UInt8) (hr : Rd w (.slice A l0.length c) l0) : ∃ l, l.length = min l0.length 10000 ∧ Rd w (.slice A l.length c) l := by
  have h := Rd.front (K := min l0.length 10000) hr (Nat.min_le_left _ _)
  have e : (l0.take (min l0.length 10000)).length = min l0.length 10000 := by rw [List.length_take]; omega
  exact ⟨l0.take (min l0.length 10000), e, by rw [e]; exact h⟩
def GSays (w : World) (v : Value) (n : Int) (b : Bool) : Prop := ∀ W, Below w.heap.size w W → Hdl W → Calls Tryd.prog 10 #[v, .int .i64 n, .bool b] W fun e w' => e = .returned (.bool true) ∧ Below W.heap.size W w'
theorem GSays.below {w w' : World} {v : Value} {n : Int} {b : Bool} (h : GSays w v n b) (hb : Below w.heap.size w w') : GSays w' v n b := fun W k hg => h W (below_to hb k hb.size) hg
theorem grframe_lt (n : Nat) : frameWrong n < 14 := by unfold frameWrong; split <;> (try split) <;> omega
theorem grcode4_lt (b0 b1 b2 b3 : UInt8) : gCode4 b0 b1 b2 b3 < 14 := by unfold gCode4; split <;> (try split) <;> omega
theorem grfirst_lt (bs : List UInt8) : grFirst bs < 14 := by
  unfold grFirst
  split
  · exact grcode4_lt _ _ _ _
  · omega
theorem grcode_lt (bs : List UInt8) : grCode bs < 14 := by
  unfold grCode
  have h1 := grfirst_lt bs
  have h2 := grframe_lt (grLeft bs).length
  split
  · exact h1
  · split
    · omega
    · split <;> omega
/-- What the answers hold. -/
def encIf (h : GH) (l : List UInt8) : ByteArray := if frameWrong l.length = 0 then txt (h.pack l) else ⟨#[]⟩
def hdIf (bs : List UInt8) : GH := if grCode bs = 0 then grHdr bs else gr0
def leftIf (bs : List UInt8) : ByteArray := if grCode bs = 0 then txt (grLeft bs) else ⟨#[]⟩
def innIf (bs : List UInt8) : Bool := if grCode bs = 0 then false else grInner bs
theorem grencap_tell (h : GH) (hf : h.Fit) (A : Option Addr) (c : Nat) (l : List UInt8) (w : World) (hr : Rd w (.slice A l.length c) l) :
    Calls Tryd.prog 6 #[.agg #[.bool h.s, .bool h.k, .int .u32 (h.key : Int), .bool h.q, .int .u32 (h.seq : Int)], .slice A l.length c] w fun e w' => ∃ xv ev, e = .returned (.tuple #[xv, ev]) ∧ (∃ cs, Rd w' xv cs ∧ txt cs = encIf h l) ∧ GSays w' ev (frameWrong l.length : Nat) false ∧ Below w.heap.size w w' := by
  unfold encIf
  refine (grencap_any h hf A c l w hr).mono ?_
  rintro e w' (⟨h0, b, rfl, hc, hb⟩ | ⟨h0, g, rfl, _, hg, hb⟩)
  · rw [if_neg h0]
    exact ⟨_, _, rfl, ⟨[], Rd.nil w', rfl⟩, fun W k hg => said_err _ (grframe_lt _) h0 [grWord] false rfl _ W hg (hc.below k), hb⟩
  · rw [if_pos h0, h0]
    exact ⟨_, _, rfl, ⟨_, Rd.of_obj (c := (h.pack l).length) hg (Nat.le_refl _), rfl⟩, fun W k hg => said_ok false W, hb⟩
theorem grdecap_tell {A : Option Addr} {c : Nat} {bs : List UInt8} {w : World} (hr : Rd w (.slice A bs.length c) bs) (hL : bs.length ≤ 1099511627776) :
    Calls Tryd.prog 8 #[.slice A bs.length c] w fun e w' => ∃ pv hv, e = .returned (.tuple #[.agg (hdIf bs).row, pv, hv]) ∧ (∃ cs, Rd w' pv cs ∧ txt cs = leftIf bs) ∧ GSays w' hv (grCode bs : Nat) (innIf bs) ∧ Below w.heap.size w w' := by
  unfold hdIf leftIf innIf
  refine (grdec_any hr hL).mono ?_
  rintro e w' (⟨h0, b, rfl, hc, hb⟩ | ⟨h0, g, rfl, _, ho, hb⟩)
  · rw [if_neg h0, if_neg h0, if_neg h0]
    exact ⟨_, _, rfl, ⟨[], Rd.nil w', rfl⟩, fun W k hg => said_err _ (grcode_lt _) h0 (grNames bs) _ rfl _ W hg (hc.below k), hb⟩
  · rw [if_pos h0, if_pos h0, if_pos h0, h0]
    exact ⟨_, _, rfl, ⟨_, Rd.of_obj (c := (grLeft bs).length) ho (Nat.le_refl _), rfl⟩, fun W k hg => said_ok _ W, hb⟩
set_option maxHeartbeats 2000000 in
theorem same_any (H : GH) (w : World) : Calls Tryd.prog 11 #[.agg #[.bool H.s, .bool H.k, .int .u32 (H.key : Int), .bool H.q, .int .u32 (H.seq : Int)], .agg #[.bool H.s, .bool H.k, .int .u32 (H.key : Int), .bool H.q, .int .u32 (H.seq : Int)]] w fun e w' => e = .returned (.bool true) ∧ Below w.heap.size w w' := by
  have HX := Lib.hid ((GBox.new w H).below ((Below.refl (w.alloc H.obj).heap.size (w.alloc H.obj)).alloc (Nat.le_refl _) (.cells H.row 35)))
  have HY := Lib.hid (RBox.new (w.alloc H.obj) H)
  have HB := Lib.hid (gbelow_al (gbelow_al (Below.refl w.heap.size w) H.obj) (.cells H.row 35))
  rw [World.size_alloc] at HY
  go_enter Tryd.func11, Tryd.ntmps11
  go_upto_region 1 with fail
  generalize hW : (w.alloc H.obj).alloc (.cells H.row 35) = W at HX HY HB
  have hW2 : (w.alloc (.cells #[.bool H.s, .bool H.k, .int .u32 (H.key : Int), .bool H.q, .int .u32 (H.seq : Int)] 24)).alloc (.cells #[.bool H.s, .bool H.k, .int .u32 (H.key : Int), .bool H.q, .int .u32 (H.seq : Int)] 35) = W := hW
  rw [hW2]
  clear hW hW2
  obtain ⟨a0, a1, a2, a3, a4⟩ := HX.out.cells
  have b0 := HY.out.c0
  have b1 := HY.out.c1
  have b2 := HY.out.c2
  have b3 := HY.out.c3
  have b4 := HY.out.c4
  go_wp2_with fail
  go_ret
  exact ⟨rfl, HB.out⟩
set_option maxRecDepth 100000 in
set_option maxHeartbeats 4000000 in
theorem grTells_any (h : GH) (hf : h.Fit) (A : Option Addr) (c : Nat) (l0 : List UInt8) (w : World) (hg : Hdl w) (hr0 : Rd w (.slice A l0.length c) l0) (hc : c ≤ 9223372036854775807) :
    Calls Tryd.prog 3 #[.agg #[.bool h.s, .bool h.k, .int .u32 (h.key : Int), .bool h.q, .int .u32 (h.seq : Int)], .slice A l0.length c] w fun e w' => e = .returned (.bool true) ∧ Below w.heap.size w w' := by
  have hlc := hr0.cap_le
  obtain ⟨l, hl, hr⟩ := gtfront l0 hr0
  have HF : Hid (∀ W, _) := fun W => grfew_any A l0.length c W hc hlc l.length hl
  have hl2 : l.length ≤ 10000 := by omega
  have HR := Lib.hid hr
  have HG := Lib.hid hg
  have HX := Lib.hid (GBox.new w h)
  have HB := Lib.hid (gbelow_al (Below.refl w.heap.size w) h.obj)
  have HE : Hid (∀ W, Rd W (.slice A l.length c) l → _) := fun W k => grencap_tell h hf A c l W k
  have HRE : Hid (∀ W, _) := fun W => rgrencap_any h hf l W
  have HD : Hid (∀ W, Rd W (.slice A l.length c) l → _) := fun W k => grdecap_tell (w := W) k (by omega)
  have HRD : Hid (∀ W, Calls Tryd.prog 9 #[.string (txt l)] W fun e w' => e = .returned (.tuple #[.agg (hdIf l).row, .string (leftIf l), .int .i64 (grCode l : Nat), .bool (innIf l)]) ∧ Below W.heap.size W w') := fun W => rgrdec_any l (by omega) W
  rw [show (if frameWrong l.length = 0 then txt (h.pack l) else ⟨#[]⟩) = encIf h l from rfl] at HRE
  clear hl hr hr0 hlc hf hg
  generalize encIf h l = T1 at *
  generalize ((frameWrong l.length : Nat) : Int) = k1 at *
  generalize hdIf l = H at *
  generalize leftIf l = T2 at *
  generalize innIf l = I2 at *
  generalize ((grCode l : Nat) : Int) = k2 at *
  go_enter Tryd.func3, Tryd.ntmps3
  go_upto_region 1 with fail
  generalize hW : w.alloc h.obj = W at HX HB
  unfold GH.obj GH.row at hW
  rw [hW]
  clear hW
  generalize hG : w.heap.size = G at *
  have HEq := Lib.hid hG
  clear hG
  go_wp2_with fail
  refine (grShown_any W).mono ?_
  rintro e w1 ⟨rfl, hb1⟩
  have HB1 := Lib.hid (below_to HB.out hb1 (by have := HB.out.size; have := HEq.out; omega))
  rw [← HEq.out] at HB1
  have HX1 := Lib.hid (HX.out.below hb1)
  have HR1 := Lib.hid (HR.out.below HB1.out)
  clear hb1 HR HX HB
  go_wp2_with fail
  refine (HF.out w1).mono ?_
  rintro e w' ⟨rfl, rfl⟩
  clear HF
  obtain ⟨c0, c1, c2, c3, c4⟩ := HX1.out.cells
  go_wp2_with fail
  refine (HE.out w1 HR1.out).mono ?_
  rintro e w2 ⟨xv, ev, rfl, hx, hs, hb2⟩
  have HB2 := Lib.hid (below_to HB1.out hb2 HB1.out.size)
  have HR2 := Lib.hid (HR1.out.below hb2)
  have HX2 := Lib.hid hx
  have HS2 := Lib.hid hs
  have HH2 := Lib.hid (HX1.out.below hb2)
  have cv2 := convert_rd HR2.out
  clear hb2 hx hs HB1 HR1 HE HX1 c0 c1 c2 c3 c4
  obtain ⟨c0, c1, c2, c3, c4⟩ := HH2.out.cells
  go_wp2_with fail
  refine (HRE.out w2).mono ?_
  rintro e w3 ⟨rfl, hb3⟩
  have HB3 := Lib.hid (below_to HB2.out hb3 HB2.out.size)
  have HR3 := Lib.hid (HR2.out.below hb3)
  have HX3 : Hid (∃ cs, Rd w3 xv cs ∧ txt cs = T1) := by obtain ⟨cs, h, e⟩ := HX2.out; exact ⟨cs, h.below hb3, e⟩
  have HS3 := Lib.hid (HS2.out.below hb3)
  clear hb3 HB2 HR2 HX2 HS2 HRE cv2 HH2 c0 c1 c2 c3 c4
  go_wp2_with fail
  refine (HD.out w3 HR3.out).mono ?_
  rintro e w4 ⟨pv, hv, he, hx, hs, hb4⟩
  have he' : e = .returned (.tuple #[.agg #[.bool H.s, .bool H.k, .int .u32 (H.key : Int), .bool H.q, .int .u32 (H.seq : Int)], pv, hv]) := he
  subst he'
  have hba := hb4.alloc hb4.size H.obj
  have hbo : Below w4.heap.size w4 (w4.alloc H.obj) := (Below.refl _ _).alloc (Nat.le_refl _) _
  have HB4 := Lib.hid (below_to HB3.out hba HB3.out.size)
  have HR4 := Lib.hid (HR3.out.below hba)
  have HX4 : Hid (∃ cs, Rd (w4.alloc H.obj) xv cs ∧ txt cs = T1) := by obtain ⟨cs, h, e⟩ := HX3.out; exact ⟨cs, h.below hba, e⟩
  have HS4 := Lib.hid (HS3.out.below hba)
  have HY4 : Hid (∃ cs, Rd (w4.alloc H.obj) pv cs ∧ txt cs = T2) := by obtain ⟨cs, h, e⟩ := hx; exact ⟨cs, h.below hbo, e⟩
  have HU4 := Lib.hid (hs.below hbo)
  have HK4 := Lib.hid (GBox.new w4 H)
  clear he hb4 hx hs HB3 HR3 HX3 HS3 HD hba hbo
  go_upto_region 6 with fail
  generalize hW : w4.alloc H.obj = W4 at HB4 HR4 HX4 HS4 HY4 HU4 HK4
  have hW2 : w4.alloc (.cells #[.bool H.s, .bool H.k, .int .u32 (H.key : Int), .bool H.q, .int .u32 (H.seq : Int)] 24) = W4 := hW
  rw [hW2]
  clear hW hW2
  generalize w4.heap.size = G4 at *
  have cv4 := convert_rd HR4.out
  go_wp2_with fail
  refine (HRD.out W4).mono ?_
  rintro e w5 ⟨he, hb5⟩
  have he' : e = .returned (.tuple #[.agg #[.bool H.s, .bool H.k, .int .u32 (H.key : Int), .bool H.q, .int .u32 (H.seq : Int)], .string T2, .int .i64 k2, .bool I2]) := he
  subst he'
  have hba := hb5.alloc hb5.size (.cells H.row 35)
  have HB5 := Lib.hid (below_to HB4.out hba HB4.out.size)
  have HX5 : Hid (∃ cs, Rd (w5.alloc (.cells H.row 35)) xv cs ∧ txt cs = T1) := by obtain ⟨cs, h, e⟩ := HX4.out; exact ⟨cs, h.below hba, e⟩
  have HS5 := Lib.hid (HS4.out.below hba)
  have HY5 : Hid (∃ cs, Rd (w5.alloc (.cells H.row 35)) pv cs ∧ txt cs = T2) := by obtain ⟨cs, h, e⟩ := HY4.out; exact ⟨cs, h.below hba, e⟩
  have HU5 := Lib.hid (HU4.out.below hba)
  have HK5 := Lib.hid (HK4.out.below hba)
  have HJ5 := Lib.hid (RBox.new w5 H)
  clear he hb5 hba HB4 HR4 HX4 HS4 HY4 HU4 HK4 HRD cv4
  go_upto_region 7 with fail
  generalize hW : w5.alloc (.cells H.row 35) = W5 at HB5 HX5 HS5 HY5 HU5 HK5 HJ5
  have hW2 : w5.alloc (.cells #[.bool H.s, .bool H.k, .int .u32 (H.key : Int), .bool H.q, .int .u32 (H.seq : Int)] 35) = W5 := hW
  rw [hW2]
  clear hW hW2
  generalize w5.heap.size = G5 at *
  obtain ⟨cs, hcs, hT1⟩ := HX5.out
  have c1 := convert_rd hcs
  rw [hT1] at c1
  have X1 := Lib.hid (HS5.out W5 (Below.refl _ _) (HG.out.below HB5.out))
  clear HS5 hcs hT1 HX5
  go_wp2_with fail
  refine X1.out.mono ?_
  rintro e w6 ⟨rfl, hb6⟩
  have HB6 := Lib.hid (below_to HB5.out hb6 HB5.out.size)
  have HY6 : Hid (∃ cs, Rd w6 pv cs ∧ txt cs = T2) := by obtain ⟨cs, h, e⟩ := HY5.out; exact ⟨cs, h.below hb6, e⟩
  have HU6 := Lib.hid (HU5.out.below hb6)
  have HK6 := Lib.hid (HK5.out.below hb6)
  have HJ6 := Lib.hid (HJ5.out.below hb6)
  clear hb6 HB5 HY5 HU5 HK5 HJ5 X1 c1
  obtain ⟨a0, a1, a2, a3, a4⟩ := HK6.out.cells
  have d0 := HJ6.out.c0
  have d1 := HJ6.out.c1
  have d2 := HJ6.out.c2
  have d3 := HJ6.out.c3
  have d4 := HJ6.out.c4
  have XM := Lib.hid (same_any H w6)
  go_wp2_with fail
  refine XM.out.mono ?_
  rintro e w7 ⟨rfl, hb7⟩
  have HB7 := Lib.hid (below_to HB6.out hb7 HB6.out.size)
  obtain ⟨ds, hds, hT2⟩ := HY6.out
  have c2 := convert_rd (hds.below hb7)
  rw [hT2] at c2
  have HU7 := Lib.hid (HU6.out.below hb7)
  have X2 := Lib.hid (HU7.out w7 (Below.refl _ _) (HG.out.below HB7.out))
  clear hb7 HB6 HY6 HU6 HK6 HJ6 XM hds hT2 HU7 a0 a1 a2 a3 a4 d0 d1 d2 d3 d4
  go_wp2_with fail
  refine X2.out.mono ?_
  rintro e w8 ⟨rfl, hb8⟩
  have HB8 := Lib.hid (below_to HB7.out hb8 HB7.out.size)
  clear hb8
  go_wp2_with fail
  go_ret
  exact ⟨rfl, HB8.out⟩
end Go.Proofs.YtjnhfabgdegngaaDoor
