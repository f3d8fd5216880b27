/-
  What is proved: the law GeneveTells answers true for any id, options and bytes, and leaves all older memory as it was.
  Conditions: errors.errorType holds the handle of the type error; the slices are of fewer than 2^63 elements.
-/
import Derived.Test.YtnjohgfhagoppaaDoorGvRefA
import Derived.Test.YtnjohgfhagoppaaDoorGvShown
import Derived.Test.YtnjohgfhagoppaaDoorGvFacts
import Derived.Deep.RegionHeldLaw
namespace Go.Proofs.YtnjohgfhagoppaaDoor
open Go.RowKit

theorem gtfront {w : World} {A : Option Addr} {c : Nat} (l0 : List UInt8) (hr : Rd w (.slice A l0.length c) l0) : ∃ l, l.length = min l0.length 10000 ∧ Rd w (.slice A l.length c) l := by
  have h := Rd.front (K := min l0.length 10000) hr (Nat.min_le_left _ _)
  have e : (l0.take (min l0.length 10000)).length = min l0.length 10000 := by rw [List.length_take]; omega
  exact ⟨l0.take (min l0.length 10000), e, by rw [e]; exact h⟩
def GSays (w : World) (v : Value) (n : Int) (b : Bool) : Prop := ∀ W, Below w.heap.size w W → Hdl W → Calls Tryd.prog 22 #[v, .int .i64 n, .bool b] W fun e w' => e = .returned (.bool true) ∧ Below W.heap.size W w'
theorem GSays.below {w w' : World} {v : Value} {n : Int} {b : Bool} (h : GSays w v n b) (hb : Below w.heap.size w w') : GSays w' v n b := fun W k hg => h W (below_to hb k hb.size) hg
theorem gframe_lt (n : Nat) : frameWrong n < 14 := by unfold frameWrong; split <;> (try split) <;> omega
theorem gopt_lt (l : List Op) : opRight l < 14 := by unfold opRight; split <;> (try split) <;> omega
theorem geCode_lt (id : Nat) (l : List Op) (n : Nat) : geCode id l n < 14 := by unfold geCode; have := gframe_lt n; have := gopt_lt l; split <;> (try split) <;> omega
theorem gCode_lt (bs : List UInt8) : gCode bs < 14 := by
  have h1 := gframe_lt (bs.length - 8 - gSize bs)
  have h2 : gOpt bs < 14 := by
    unfold gOpt
    split
    · omega
    · split
      · omega
      · split <;> omega
  have h3 : gHead bs < 14 := by unfold gHead; split <;> (try split) <;> (try split) <;> omega
  unfold gCode
  split <;> (try split) <;> omega
theorem gencap_tell (id : Nat) (A1 : Option Addr) (l : List Op) (c1 : Nat) (A : Option Addr) (c : Nat) (f : List UInt8) (w : World) (ho : OpsAt w A1 l) (hfit : ∀ x ∈ l, x.Fit) (hn : l.length ≤ 1000) (hr : Rd w (.slice A f.length c) f) :
    Calls Tryd.prog 16 #[.int .u32 (id : Int), .slice A1 l.length c1, .slice A f.length c] w fun e w' => ∃ xv ev, e = .returned (.tuple #[xv, ev]) ∧ (∃ cs, Rd w' xv cs ∧ txt cs = (if geCode id l f.length = 0 then txt (gPut id l f) else ⟨#[]⟩)) ∧ GSays w' ev (geCode id l f.length : Nat) false ∧ Below w.heap.size w w' := by
  refine (gencap_any id A1 l c1 A c f w ho hfit hn hr).mono ?_
  rintro e w' (⟨h0, b, rfl, hc, hb⟩ | ⟨h0, g, rfl, _, hg, hb⟩)
  · rw [if_neg h0]
    exact ⟨_, _, rfl, ⟨[], Rd.nil w', rfl⟩, fun W k hg => said_err _ (geCode_lt _ _ _) h0 [gvWord] false rfl _ W hg (hc.below k), hb⟩
  · rw [if_pos h0, h0]
    exact ⟨_, _, rfl, ⟨_, Rd.of_obj (c := (gPut id l f).length) hg (Nat.le_refl _), rfl⟩, fun W k hg => said_ok false W, hb⟩
/-- What Decap's answers hold. -/
def gOpsIf (bs : List UInt8) : List Op := if gCode bs = 0 then gOps bs else []
theorem gdecap_tell {v : Value} {bs : List UInt8} {w : World} (hr : Rd w v bs) (hL : bs.length ≤ 549755813888) :
    Calls Tryd.prog 18 #[v] w fun e w' => ∃ A3 c3 pv hv, e = .returned (.tuple #[.int .u32 (if gCode bs = 0 then (xId bs : Int) else 0), .slice A3 (gOpsIf bs).length c3, pv, hv]) ∧ OpsAt w' A3 (gOpsIf bs) ∧ (∃ cs, Rd w' pv cs ∧ txt cs = (if gCode bs = 0 then txt (gEnd bs) else ⟨#[]⟩)) ∧ GSays w' hv (gCode bs : Nat) (gInner bs) ∧ Below w.heap.size w w' := by
  unfold gOpsIf
  refine (gdec_any hr hL).mono ?_
  rintro e w' (⟨h0, b, rfl, hc, hb⟩ | ⟨h0, sv, lx, g, rfl, hlx, hq, _, hp, _, _, hb⟩)
  · rw [if_neg h0, if_neg h0, if_neg h0]
    exact ⟨none, 0, _, _, rfl, OpsAt.nil w', ⟨[], Rd.nil w', rfl⟩, fun W k hg => said_err _ (gCode_lt _) h0 (gNames bs) _ rfl _ W hg (hc.below k), hb⟩
  · rw [if_pos h0, if_pos h0, if_pos h0, h0]
    obtain ⟨A3, c3, rfl, _, _, ho⟩ := hq.ops
    rw [hlx] at ho ⊢
    exact ⟨A3, c3, _, _, rfl, ho, ⟨_, Rd.of_obj (c := (gEnd bs).length) hp (Nat.le_refl _), rfl⟩, fun W k hg => said_ok _ W, hb⟩
theorem rgdecap_tell (bs : List UInt8) (hL : bs.length ≤ 549755813888) (w : World) :
    Calls Tryd.prog 19 #[.string (txt bs)] w fun e w' => ∃ A3 c3, e = .returned (.tuple #[.int .u32 (if gCode bs = 0 then (xId bs : Int) else 0), .slice A3 (gOpsIf bs).length c3, .string (if gCode bs = 0 then txt (gEnd bs) else ⟨#[]⟩), .int .i64 (gCode bs : Nat), .bool (gInner bs)]) ∧ OpsAt w' A3 (gOpsIf bs) ∧ Below w.heap.size w w' := by
  unfold gOpsIf
  refine (rgdecap_any bs hL w).mono ?_
  rintro e w' (⟨h0, rfl, hb⟩ | ⟨h0, sv, lx, rfl, hlx, hq, hb⟩)
  · rw [if_neg h0, if_neg h0, if_neg h0]
    exact ⟨none, 0, rfl, OpsAt.nil w', hb⟩
  · rw [if_pos h0, if_pos h0, if_pos h0, h0]
    obtain ⟨A3, c3, rfl, ho⟩ := hq.ops
    rw [hlx] at ho ⊢
    have hin : gInner bs = false := by
      unfold gInner
      have h8 : ¬ bs.length < 8 := fun h => by
        have : gHead bs = 2 := by unfold gHead; rw [if_pos h]
        rw [gcode_head (by rw [this]; decide), this] at h0
        cases h0
      have hs : ¬ (gHead bs = 0 ∧ bs.length - 8 < gSize bs) := fun ⟨hh, h⟩ => by
        have : gOpt bs = 2 := by unfold gOpt; rw [if_pos h]
        rw [gcode_opt hh (by rw [this]; decide), this] at h0
        cases h0
      rw [decide_eq_false h8, Bool.false_or]
      by_cases hh : gHead bs = 0
      · rw [decide_eq_true hh, decide_eq_false (fun h => hs ⟨hh, h⟩)]; rfl
      · rw [decide_eq_false hh]; rfl
    rw [hin]
    exact ⟨A3, c3, rfl, ho, hb⟩
theorem gright_tell (A : Option Addr) (l : List Op) (c : Nat) (w : World) (h : OpsAt w A l) (hn : l.length ≤ 1000) :
    Calls Tryd.prog 24 #[.slice A l.length c] w fun e w' => ∃ v, e = .returned v ∧ GSays w' v (opRight l : Nat) false ∧ Below w.heap.size w w' := by
  refine (gright_any A l c w h hn).mono ?_
  rintro e w' (⟨h0, rfl, hb⟩ | ⟨h0, b, rfl, hc, hb⟩)
  · exact ⟨_, rfl, fun W k hg => by rw [h0]; exact said_ok false W, hb⟩
  · exact ⟨_, rfl, fun W k hg => said_err _ (gopt_lt _) h0 [gvWord] false rfl _ W hg (hc.below k), hb⟩
theorem gopsIf_le (bs : List UInt8) : (gOpsIf bs).length ≤ 63 := by
  unfold gOpsIf
  split
  · rename_i h; exact (gtake_facts h).2.2.2.2.2.2
  · exact Nat.zero_le _
set_option maxRecDepth 100000 in
set_option maxHeartbeats 4000000 in
theorem gvTells_any (id : Nat) (A1 : Option Addr) (c1 : Nat) (L : List Op) (A : Option Addr) (c : Nat) (l0 : List UInt8) (w : World) (hg : Hdl w) (hid : id < 4294967296) (hO : OpsAt w A1 L) (hfit : ∀ x ∈ L, x.Fit) (hLc : L.length ≤ c1) (hc1 : c1 ≤ 9223372036854775807) (hr0 : Rd w (.slice A l0.length c) l0) (hc : c ≤ 9223372036854775807) :
    Calls Tryd.prog 4 #[.int .u32 (id : Int), .slice A1 L.length c1, .slice A l0.length c] w fun e w' => e = .returned (.bool true) ∧ Below w.heap.size w w' := by
  have hlc := hr0.cap_le
  obtain ⟨f, hf, hr⟩ := gtfront l0 hr0
  obtain ⟨l, hl, hl2⟩ : ∃ l, l = L.take 100 ∧ l.length = min L.length 100 := ⟨_, rfl, by rw [List.length_take]; omega⟩
  have ho : OpsAt w A1 l := hl ▸ hO.take 100
  have hfl : ∀ x ∈ l, x.Fit := fun x hx => hfit x (List.mem_of_mem_take (hl ▸ hx))
  have HF : Hid (∀ W, _) := fun W => gfew_any A l0.length c W hc hlc f.length hf
  have HSo : Hid (∀ W, _) := fun W => gsome_any A1 L.length c1 W hc1 hLc l.length hl2
  have hf2 : f.length ≤ 10000 := by omega
  have hl3 : l.length ≤ 100 := by omega
  have HR := Lib.hid hr
  have HG := Lib.hid hg
  have HO := Lib.hid ho
  have HFl := Lib.hid hfl
  have HL := Lib.hid hl3
  have HE : Hid (∀ W, OpsAt W A1 l → Rd W (.slice A f.length c) f → _) := fun W h1 h2 => gencap_tell id A1 l c1 A c f W h1 hfl (by omega) h2
  have HRE : Hid (∀ W, OpsAt W A1 l → Calls Tryd.prog 17 #[.int .u32 (id : Int), .slice A1 l.length c1, .string (txt f)] W fun e w' => e = .returned (.tuple #[.string (if geCode id l f.length = 0 then txt (gPut id l f) else ⟨#[]⟩), .int .i64 ((geCode id l f.length : Nat) : Int)]) ∧ Below W.heap.size W w') := fun W h => rgencap_any id hid A1 l c1 f W h hfl (by omega)
  have HD : Hid (∀ W, Rd W (.slice A f.length c) f → _) := fun W h => gdecap_tell (w := W) h (by omega)
  have HRD : Hid (∀ W, _) := fun W => rgdecap_tell f (by omega) W
  have HRi : Hid (∀ W, OpsAt W A1 l → _) := fun W h => gright_tell A1 l c1 W h (by omega)
  have HRr : Hid (∀ W, OpsAt W A1 l → _) := fun W h => rright_any A1 l c1 W h (by omega)
  have HSm : Hid (∀ (W : World) (A3 : Option Addr) (c3 : Nat) (A4 : Option Addr) (c4 : Nat), OpsAt W A3 (gOpsIf f) → OpsAt W A4 (gOpsIf f) → _) := fun W A3 c3 A4 c4 h k => gsame_any A3 A4 (gOpsIf f) c3 c4 W h k (by have := gopsIf_le f; omega)
  clear hl hl2 hf hf2 hr hr0 hlc hid hg ho hO hfl hfit hLc hc1 hl3
  generalize (if geCode id l f.length = 0 then txt (gPut id l f) else ⟨#[]⟩) = T1 at *
  generalize ((geCode id l f.length : Nat) : Int) = k1 at *
  generalize (if gCode f = 0 then (xId f : Int) else 0) = n1 at *
  generalize (if gCode f = 0 then txt (gEnd f) else ⟨#[]⟩) = T2 at *
  generalize ((gCode f : Nat) : Int) = k2 at *
  generalize gInner f = inn at *
  generalize gOpsIf f = lo at *
  generalize ((opRight l : Nat) : Int) = k3 at *
  generalize (id : Int) = z at *
  go_enter Tryd.func4, Tryd.ntmps4
  go_wp2_with fail
  refine (gvShown_any w).mono ?_
  rintro e w1 ⟨rfl, hb1⟩
  have HB1 := Lib.hid hb1
  have HR1 := Lib.hid (HR.out.below hb1)
  have HO1 := Lib.hid (HO.out.below hb1)
  clear hb1 HR HO
  go_wp2_with fail
  refine (HF.out w1).mono ?_
  rintro e w' ⟨rfl, rfl⟩
  clear HF
  go_wp2_with fail
  refine (HSo.out w1).mono ?_
  rintro e w' ⟨rfl, rfl⟩
  clear HSo
  go_wp2_with fail
  refine (HE.out w1 HO1.out HR1.out).mono ?_
  rintro e w2 ⟨xv, ev, rfl, hx, hs, hb2⟩
  have HB2 := Lib.hid (below_to HB1.out hb2 HB1.out.size)
  have HR2 := Lib.hid (HR1.out.below hb2)
  have HO2 := Lib.hid (HO1.out.below hb2)
  have HX2 := Lib.hid hx
  have HS2 := Lib.hid hs
  have cv2 := convert_rd HR2.out
  clear hb2 hx hs HB1 HR1 HO1 HE
  go_wp2_with fail
  refine (HRE.out w2 HO2.out).mono ?_
  rintro e w3 ⟨rfl, hb3⟩
  have HB3 := Lib.hid (below_to HB2.out hb3 HB2.out.size)
  have HR3 := Lib.hid (HR2.out.below hb3)
  have HO3 := Lib.hid (HO2.out.below hb3)
  have HX3 : Hid (∃ cs, Rd w3 xv cs ∧ txt cs = T1) := by obtain ⟨cs, h, e⟩ := HX2.out; exact ⟨cs, h.below hb3, e⟩
  have HS3 := Lib.hid (HS2.out.below hb3)
  clear hb3 HB2 HR2 HO2 HX2 HS2 HRE cv2
  go_wp2_with fail
  refine (HD.out w3 HR3.out).mono ?_
  rintro e w4 ⟨A3, c3, pv, hv, rfl, ho3, hx, hs, hb4⟩
  have HB4 := Lib.hid (below_to HB3.out hb4 HB3.out.size)
  have HR4 := Lib.hid (HR3.out.below hb4)
  have HO4 := Lib.hid (HO3.out.below hb4)
  have HX4 : Hid (∃ cs, Rd w4 xv cs ∧ txt cs = T1) := by obtain ⟨cs, h, e⟩ := HX3.out; exact ⟨cs, h.below hb4, e⟩
  have HS4 := Lib.hid (HS3.out.below hb4)
  have HP4 := Lib.hid ho3
  have HY4 := Lib.hid hx
  have HU4 := Lib.hid hs
  have cv4 := convert_rd HR4.out
  clear hb4 hx hs ho3 HB3 HR3 HO3 HX3 HS3 HD
  go_wp2_with fail
  refine (HRD.out w4).mono ?_
  rintro e w5 ⟨A4, c4, rfl, ho4, hb5⟩
  have HB5 := Lib.hid (below_to HB4.out hb5 HB4.out.size)
  obtain ⟨cs, hcs, hT1⟩ := HX4.out
  obtain ⟨ds, hds, hT2⟩ := HY4.out
  have HCS := Lib.hid (hcs.below hb5)
  have HT1 := Lib.hid hT1
  have HDS := Lib.hid (hds.below hb5)
  have HT2 := Lib.hid hT2
  have HO5 := Lib.hid (HO4.out.below hb5)
  have HP5 := Lib.hid (HP4.out.below hb5)
  have HQ5 := Lib.hid ho4
  have HS5 := Lib.hid (HS4.out.below hb5)
  have HU5 := Lib.hid (HU4.out.below hb5)
  clear hb5 ho4 HB4 HR4 HO4 HX4 HS4 HY4 HU4 HP4 HRD hcs hT1 hds hT2 cv4
  go_wp2_with fail
  go_loopw [21] (fun s21 wr => ∃ k : Nat, s21 = .int .i64 (k : Int) ∧ k ≤ l.length ∧ Below w5.heap.size w5 wr) (fun s21 _ => l.length - (intOf s21).toNat)
  case atStart => exact ⟨0, rfl, Nat.zero_le _, Below.refl _ _⟩
  case round =>
    obtain ⟨k, rfl, hk, hB⟩ := hrel
    have HB := Lib.hid hB
    have hl := HL.out
    clear hB
    by_cases hlt : k < l.length
    · have q1 : decide ((k : Int) < (l.length : Int)) = true := decide_eq_true (by omega)
      obtain ⟨x, hx⟩ : ∃ x, l[k]? = some x := ⟨l[k], List.getElem?_eq_getElem hlt⟩
      have hfx := HFl.out x (List.mem_of_getElem? hx)
      obtain ⟨g, o, B, bc, rfl, ha, _, _⟩ := (HO5.out.below HB.out) k x hx
      have KS : Hid (∀ W, Below wr.heap.size wr W → W.cell? ⟨g, o + k * 3, none⟩ = some (.int .u16 x.c) ∧ W.cell? ⟨g, o + k * 3 + 1, none⟩ = some (.int .u8 x.t) ∧ W.cell? ⟨g, o + k * 3 + 2, none⟩ = some (.slice B x.b.length bc)) := fun W h => ⟨(ha.below h).c0, (ha.below h).c1, (ha.below h).c2⟩
      have HC : Hid (∀ W, Below wr.heap.size wr W → Calls Tryd.prog 20 #[.agg #[.int .u16 x.c, .int .u8 x.t, .slice B x.b.length bc]] W fun e w' => e = .returned (.bool (decide (128 ≤ x.t))) ∧ Below wr.heap.size wr w') := fun W hW => (gcrit_any x hfx (.slice B x.b.length bc) W).mono fun _ _ h => ⟨h.1, below_to hW h.2 hW.size⟩
      have HQ : Hid (∀ W, Below wr.heap.size wr W → Calls Tryd.prog 21 #[.agg #[.int .u16 x.c, .int .u8 x.t, .slice B x.b.length bc]] W fun e w' => e = .returned (.bool (decide (128 ≤ x.t))) ∧ Below wr.heap.size wr w') := fun W hW => (rcrit_any x (.slice B x.b.length bc) W).mono fun _ _ h => ⟨h.1, below_to hW h.2 hW.size⟩
      obtain ⟨m0, m1, m2⟩ := ha
      clear hx hfx
      generalize decide (128 ≤ x.t) = bv at *
      go_upto_region 11 with fail
      go_region_held_law (fun W' => W'.cell? ⟨g, o + k * 3, none⟩ = some (.int .u16 x.c) ∧ W'.cell? ⟨g, o + k * 3 + 1, none⟩ = some (.int .u8 x.t) ∧ W'.cell? ⟨g, o + k * 3 + 2, none⟩ = some (.slice B x.b.length bc))
        (first | assumption | exact KS.out _ (below_drew wr) | exact KS.out _ H1.out | exact KS.out _ H2.out)
        (first
          | (go_at_call 20; (with_reducible refine (HC.out _ (below_drew wr)).mono ?_); rintro e w3 ⟨rfl, h3⟩; (have H1 := Lib.hid h3); clear h3)
          | (go_at_call 20; (with_reducible refine (HC.out _ H2.out).mono ?_); rintro e w3 ⟨rfl, h3⟩; (have H1 := Lib.hid h3); clear h3)
          | (go_at_call 21; (with_reducible refine (HQ.out _ (below_drew wr)).mono ?_); rintro e w3 ⟨rfl, h3⟩; (have H2 := Lib.hid h3); clear h3)
          | (go_at_call 21; (with_reducible refine (HQ.out _ H1.out).mono ?_); rintro e w3 ⟨rfl, h3⟩; (have H2 := Lib.hid h3); clear h3))
      all_goals
        go_wp2_with fail
        first
          | exact ⟨⟨k + 1, by simp, by omega, below_to HB.out H2.out HB.out.size⟩, by simp [intOf]; omega⟩
          | exact ⟨⟨k + 1, by simp, by omega, below_to HB.out H1.out HB.out.size⟩, by simp [intOf]; omega⟩
    · have q1 : decide ((k : Int) < (l.length : Int)) = false := decide_eq_false (by omega)
      have HBr := Lib.hid (below_to HB5.out HB.out HB5.out.size)
      have d1 := convert_rd (HCS.out.below HB.out)
      rw [HT1.out] at d1
      have HSr := Lib.hid (HS5.out.below HB.out)
      have HUr := Lib.hid (HU5.out.below HB.out)
      have HDr := Lib.hid (HDS.out.below HB.out)
      have HOr := Lib.hid (HO5.out.below HB.out)
      have HPr := Lib.hid (HP5.out.below HB.out)
      have HQr := Lib.hid (HQ5.out.below HB.out)
      have X1 := Lib.hid (HSr.out wr (Below.refl _ _) (HG.out.below HBr.out))
      clear HSr HS5 HU5 HDS HO5 HP5 HQ5 HCS HB HB5 hk
      go_wp2_with fail
      refine X1.out.mono ?_
      rintro e w6 ⟨rfl, hb6⟩
      have HB6 := Lib.hid (below_to HBr.out hb6 HBr.out.size)
      have X2 := Lib.hid (HSm.out w6 A3 c3 A4 c4 (HPr.out.below hb6) (HQr.out.below hb6))
      have HD6 := Lib.hid (HDr.out.below hb6)
      have HU6 := Lib.hid (HUr.out.below hb6)
      have HO6 := Lib.hid (HOr.out.below hb6)
      clear hb6 X1 HBr HDr HUr HOr HPr HQr HSm d1
      go_wp2_with fail
      refine X2.out.mono ?_
      rintro e w7 ⟨rfl, hb7⟩
      have HB7 := Lib.hid (below_to HB6.out hb7 HB6.out.size)
      have d2 := convert_rd (HD6.out.below hb7)
      rw [HT2.out] at d2
      have HU7 := Lib.hid (HU6.out.below hb7)
      have HO7 := Lib.hid (HO6.out.below hb7)
      have X3 := Lib.hid (HU7.out w7 (Below.refl _ _) (HG.out.below HB7.out))
      clear hb7 X2 HB6 HD6 HU6 HO6 HU7
      go_wp2_with fail
      refine X3.out.mono ?_
      rintro e w8 ⟨rfl, hb8⟩
      have HB8 := Lib.hid (below_to HB7.out hb8 HB7.out.size)
      have HO8 := Lib.hid (HO7.out.below hb8)
      clear hb8 X3 HB7 HO7 d2
      go_wp2_with fail
      refine (HRi.out w8 HO8.out).mono ?_
      rintro e w9 ⟨rv, rfl, hs9, hb9⟩
      have HB9 := Lib.hid (below_to HB8.out hb9 HB8.out.size)
      have HO9 := Lib.hid (HO8.out.below hb9)
      have HS9 := Lib.hid hs9
      clear hb9 hs9 HB8 HO8 HRi
      go_wp2_with fail
      refine (HRr.out w9 HO9.out).mono ?_
      rintro e w' ⟨rfl, rfl⟩
      have X4 := Lib.hid (HS9.out w9 (Below.refl _ _) (HG.out.below HB9.out))
      clear HRr HS9 HO9
      go_wp2_with fail
      refine X4.out.mono ?_
      rintro e w10 ⟨rfl, hb10⟩
      have HB10 := Lib.hid (below_to HB9.out hb10 HB9.out.size)
      clear hb10 X4 HB9
      go_wp2_with fail
      go_ret
      exact ⟨rfl, HB10.out⟩
end Go.Proofs.YtnjohgfhagoppaaDoor
