/-
  What is proved: the law VxlanTells answers true for any id and bytes, and leaves all older memory as it was.
  Conditions: errors.errorType holds the handle of the type error; the slice is of fewer than 2^63 bytes.
-/
import Derived.Test.YtnjohgfhagoppaaDoorKxRef
namespace Go.Proofs.YtnjohgfhagoppaaDoor
open Go.RowKit

def SaysSo (w : World) (v : Value) (n : Int) (b : Bool) : Prop := ∀ W, Below w.heap.size w W → Hdl W → Calls Tryd.prog 12 #[v, .int .i64 n, .bool b] W fun e w' => e = .returned (.bool true) ∧ Below W.heap.size W w'
theorem SaysSo.below {w w' : World} {v : Value} {n : Int} {b : Bool} (h : SaysSo w v n b) (hb : Below w.heap.size w w') : SaysSo w' v n b := fun W k hg => h W (below_to hb k hb.size) hg
theorem frameWrong_cases (n : Nat) : frameWrong n = 0 ∨ frameWrong n = 2 ∨ frameWrong n = 7 := by unfold frameWrong; split <;> (try split) <;> simp
theorem eCode_lt (id n : Nat) : eCode id n < 14 := by unfold eCode; have := frameWrong_cases n; split <;> omega
theorem xCode_lt (bs : List UInt8) : xCode bs < 14 := by unfold xCode; have := frameWrong_cases (bs.length - 8); split <;> (try split) <;> omega
theorem encap_tell (id : Nat) (A : Option Addr) (c : Nat) (l : List UInt8) (w : World) (hr : Rd w (.slice A l.length c) l) :
    Calls Tryd.prog 8 #[.int .u32 (id : Int), .slice A l.length c] w fun e w' => ∃ xv ev, e = .returned (.tuple #[xv, ev]) ∧ (convert 23 9 xv).run Tryd.prog w' = .ok (.string (if eCode id l.length = 0 then txt (xHd id ++ l) else ⟨#[]⟩)) w' ∧ (∃ cs, Rd w' xv cs ∧ txt cs = (if eCode id l.length = 0 then txt (xHd id ++ l) else ⟨#[]⟩)) ∧ SaysSo w' ev (eCode id l.length : Nat) false ∧ Below w.heap.size w w' := by
  refine (encap_any id A c l w hr).mono ?_
  rintro e w' (⟨h0, b, rfl, hc, hb⟩ | ⟨h0, g, rfl, _, ho, hb⟩)
  · rw [if_neg h0]
    exact ⟨_, _, rfl, convert_rd (Rd.nil w'), ⟨[], Rd.nil w', rfl⟩, fun W k hg => said_err _ (eCode_lt _ _) h0 [vxWord] false rfl _ W hg (hc.below k), hb⟩
  · rw [if_pos h0, h0]
    have hd := Rd.of_obj (c := (xHd id ++ l).length) ho (Nat.le_refl _)
    exact ⟨_, _, rfl, convert_rd hd, ⟨_, hd, rfl⟩, fun W k hg => said_ok false W, hb⟩
theorem decap_tell {v : Value} {bs : List UInt8} {w : World} (hr : Rd w v bs) (hL : bs.length ≤ 549755813888) :
    Calls Tryd.prog 10 #[v] w fun e w' => ∃ pv hv, e = .returned (.tuple #[.int .u32 (if xCode bs = 0 then (xId bs : Int) else 0), pv, hv]) ∧ (∃ cs, Rd w' pv cs ∧ txt cs = (if xCode bs = 0 then txt (bs.drop 8) else ⟨#[]⟩)) ∧ SaysSo w' hv (xCode bs : Nat) (decide (bs.length < 8)) ∧ Below w.heap.size w w' := by
  refine (xdecap_any hr hL).mono ?_
  rintro e w' (⟨h0, b, rfl, hc, hb⟩ | ⟨h0, g, rfl, _, ho, hb⟩)
  · rw [if_neg h0, if_neg h0]
    refine ⟨_, _, rfl, ⟨[], Rd.nil w', rfl⟩, fun W k hg => said_err _ (xCode_lt _) h0 (xNames bs) _ ?_ _ W hg (hc.below k), hb⟩
    unfold xNames
    by_cases h8 : bs.length < 8
    · rw [if_pos h8, if_pos (by simpa using h8)]
    · rw [if_neg h8, if_neg (by simpa using h8)]
  · rw [if_pos h0, if_pos h0, h0]
    have h8 : ¬ bs.length < 8 := by intro h; unfold xCode at h0; rw [if_pos h] at h0; cases h0
    have hd := Rd.of_obj (c := (bs.drop 8).length) ho (Nat.le_refl _)
    exact ⟨_, _, rfl, ⟨_, hd, rfl⟩, fun W k hg => said_ok _ W, hb⟩
set_option maxRecDepth 100000 in
set_option maxHeartbeats 4000000 in
theorem kxTells_any (id : Nat) (A : Option Addr) (c : Nat) (l0 : List UInt8) (w : World) (hg : Hdl w) (hid : id < 4294967296) (hr0 : Rd w (.slice A l0.length c) l0) (hc : c ≤ 9223372036854775807) :
    Calls Tryd.prog 3 #[.int .u32 (id : Int), .slice A l0.length c] w fun e w' => e = .returned (.bool true) ∧ Below w.heap.size w w' := by
  have hlc := hr0.cap_le
  obtain ⟨l, hl, hr⟩ := front10 l0 hr0
  have HF : Hid (∀ W, _) := fun W => kxfew_any A l0.length c W hc hlc l.length hl
  have hl2 : l.length ≤ 10000 := by omega
  have HR := Lib.hid hr
  have HG := Lib.hid hg
  have HE : Hid (∀ W, Rd W (.slice A l.length c) l → _) := fun W h => encap_tell id A c l W h
  have HRE : Hid (∀ W, _) := fun W => rencap_any id hid l (by omega) W
  have HD : Hid (∀ W, Rd W (.slice A l.length c) l → _) := fun W h => decap_tell (w := W) h (by omega)
  have HRD : Hid (∀ W, _) := fun W => rdecap_any l (by omega) W
  clear hl hr hr0 hlc hid hg
  generalize (if eCode id l.length = 0 then txt (xHd id ++ l) else ⟨#[]⟩) = T1 at *
  generalize ((eCode id l.length : Nat) : Int) = k1 at *
  generalize (if xCode l = 0 then (xId l : Int) else 0) = n1 at *
  generalize (if xCode l = 0 then txt (l.drop 8) else ⟨#[]⟩) = T2 at *
  generalize ((xCode l : Nat) : Int) = k2 at *
  generalize (id : Int) = z at *
  go_enter Tryd.func3, Tryd.ntmps3
  go_wp2_with fail
  refine (kxShown_any w).mono ?_
  rintro e w1 ⟨rfl, hb1⟩
  have HB1 := Lib.hid hb1
  have HR1 := Lib.hid (HR.out.below hb1)
  clear hb1 HR
  go_wp2_with fail
  refine (HF.out w1).mono ?_
  rintro e w' ⟨rfl, rfl⟩
  clear HF
  go_wp2_with fail
  refine (HE.out w1 HR1.out).mono ?_
  rintro e w2 ⟨xv, ev, rfl, _, hx, hs, hb2⟩
  have HB2 := Lib.hid (below_to HB1.out hb2 HB1.out.size)
  have HR2 := Lib.hid (HR1.out.below hb2)
  have HX2 := Lib.hid hx
  have HS2 := Lib.hid hs
  have cv2 := convert_rd HR2.out
  clear hb2 hx hs HB1 HR1 HE
  go_wp2_with fail
  refine (HRE.out w2).mono ?_
  rintro e w3 ⟨rfl, hb3⟩
  have HB3 := Lib.hid (below_to HB2.out hb3 HB2.out.size)
  have HR3 := Lib.hid (HR2.out.below hb3)
  have HX3 : Hid (∃ cs, Rd w3 xv cs ∧ txt cs = T1) := by obtain ⟨cs, h, e⟩ := HX2.out; exact ⟨cs, h.below hb3, e⟩
  have HS3 := Lib.hid (HS2.out.below hb3)
  clear hb3 HB2 HR2 HX2 HS2 HRE cv2
  go_wp2_with fail
  refine (HD.out w3 HR3.out).mono ?_
  rintro e w4 ⟨pv, hv, rfl, hx, hs, hb4⟩
  have HB4 := Lib.hid (below_to HB3.out hb4 HB3.out.size)
  have HR4 := Lib.hid (HR3.out.below hb4)
  have HX4 : Hid (∃ cs, Rd w4 xv cs ∧ txt cs = T1) := by obtain ⟨cs, h, e⟩ := HX3.out; exact ⟨cs, h.below hb4, e⟩
  have HS4 := Lib.hid (HS3.out.below hb4)
  have HY4 := Lib.hid hx
  have HU4 := Lib.hid hs
  have cv4 := convert_rd HR4.out
  clear hb4 hx hs HB3 HR3 HX3 HS3 HD
  go_wp2_with fail
  refine (HRD.out w4).mono ?_
  rintro e w5 ⟨rfl, hb5⟩
  have HB5 := Lib.hid (below_to HB4.out hb5 HB4.out.size)
  obtain ⟨cs, hcs, hT1⟩ := HX4.out
  obtain ⟨ds, hds, hT2⟩ := HY4.out
  have c1 := convert_rd (hcs.below hb5)
  rw [hT1] at c1
  have HDS := Lib.hid (hds.below hb5)
  have HT2 := Lib.hid hT2
  have HS5 := Lib.hid (HS4.out.below hb5)
  have HU5 := Lib.hid (HU4.out.below hb5)
  clear hb5 HB4 HR4 HX4 HS4 HY4 HU4 HRD hcs hT1 hds hT2 cv4
  have X1 := Lib.hid (HS5.out w5 (Below.refl _ _) (HG.out.below HB5.out))
  clear HS5
  go_wp2_with fail
  refine X1.out.mono ?_
  rintro e w6 ⟨rfl, hb6⟩
  have HB6 := Lib.hid (below_to HB5.out hb6 HB5.out.size)
  have c2 := convert_rd (HDS.out.below hb6)
  rw [HT2.out] at c2
  have HU6 := Lib.hid (HU5.out.below hb6)
  have X2 := Lib.hid (HU6.out w6 (Below.refl _ _) (HG.out.below HB6.out))
  clear hb6 HB5 HDS HU5 X1 HU6 c1
  by_cases h8 : l.length < 8
  · rw [decide_eq_true h8] at X2
    have h8b : decide ((l.length : Int) < 8) = true := decide_eq_true (by omega)
    go_wp2_with fail
    refine X2.out.mono ?_
    rintro e w7 ⟨rfl, hb7⟩
    have HB7 := Lib.hid (below_to HB6.out hb7 HB6.out.size)
    clear hb7
    go_wp2_with fail
    go_ret
    exact ⟨rfl, HB7.out⟩
  · rw [decide_eq_false h8] at X2
    have h8b : decide ((l.length : Int) < 8) = false := decide_eq_false (by omega)
    go_wp2_with fail
    refine X2.out.mono ?_
    rintro e w7 ⟨rfl, hb7⟩
    have HB7 := Lib.hid (below_to HB6.out hb7 HB6.out.size)
    clear hb7
    go_wp2_with fail
    go_ret
    exact ⟨rfl, HB7.out⟩
end Go.Proofs.YtnjohgfhagoppaaDoor
