/-
  What is proved: 'shown' of the laws of layer 1 answers true, and leaves all older memory as it was.
  Conditions: errors.errorType holds the handle of the type error.
-/
import Derived.Test.YtmkfinpkidfohaaDoorStr
namespace Go.Proofs.YtmkfinpkidfohaaDoor
open Go.RowKit

/-- errors.errorType holds what the program lays in it. -/
def Hdl (w : World) : Prop := w.cell? ⟨0, 0, none⟩ = some (.iface 85 (.agg #[.pointer (some ⟨4, 42, none⟩)]))
theorem Hdl.below {w w' : World} (h : Hdl w) (hb : Below w.heap.size w w') : Hdl w' := (hb.cell (World.block_lt_of_cell? w _ h)).trans h

set_option maxRecDepth 100000 in
set_option maxHeartbeats 4000000 in
theorem shown_any (w : World) (hg : Hdl w) : Calls Tryd.prog 5 #[] w fun e w' => e = .returned (.bool true) ∧ Below w.heap.size w w' := by
  have HG := Lib.hid hg
  clear hg
  have hb0 : Below w.heap.size w (w.alloc (bytesObj [0, 5, 7])) := (Below.refl _ _).alloc (Nat.le_refl _) _
  have hrd : Rd (w.alloc (bytesObj [0, 5, 7])) (.slice (some ⟨w.heap.size, 0, none⟩) 3 3) [0, 5, 7] := Rd.of_obj (bytesObj_new w [0, 5, 7]) (Nat.le_refl _)
  have HR := Lib.hid hrd
  have B0 := Lib.hid hb0
  clear hrd hb0
  go_enter Tryd.func5, Tryd.ntmps5
  go_wp2_with fail
  refine (Read_facts _ [0, 5, 7] _ HR.out (by simp)).mono ?_
  rintro e w1 ⟨b, rfl, hb, hr1, hB1⟩
  have hw1 : Below w.heap.size w w1 := below_to B0.out hB1 (B0.out.size)
  have hb' : w.heap.size ≤ b := Nat.le_trans (B0.out.size) hb
  have hbl : b < w1.heap.size := hr1.at_
  have hr2 := hr1.below ((Below.refl _ _).alloc (Nat.le_refl _) (.cells #[.slice none 0 0] 27))
  have hwt : Wtr (w1.alloc (.cells #[.slice none 0 0] 27)) ⟨w1.heap.size, 0, none⟩ none [] := Wtr.zero (by simp) (by simp)
  have hw2 : Below w.heap.size w (w1.alloc (.cells #[.slice none 0 0] 27)) := hw1.alloc hw1.size _
  have hs1 : w.heap.size ≤ w1.heap.size := hw1.size
  have B1 := Lib.hid hw2
  have R1 := Lib.hid hr2
  have W1 := Lib.hid hwt
  clear hB1 hw1 hr1 hr2 hb B0 HR hwt hw2
  go_wp2_with fail
  refine (U16_ok _ 0 5 [7] _ R1.out (by simp)).mono ?_
  rintro e w2 ⟨he, hr3, hf3, hz3⟩
  have he' : e = .returned (.tuple #[.int .u16 5, .nilIface]) := he
  subst he'
  have B2 := Lib.hid (below_to B1.out (hf3.below (B := w.heap.size) B1.out.size (fun x hx => by subst hx; exact hb')) (Nat.le_refl _))
  have R2 := Lib.hid hr3
  have W2 := Lib.hid (W1.out.fr hf3 (by intro e; injection e; omega) (by simp))
  clear he hr3 hf3 hz3 B1 R1 W1
  go_wp2_with fail
  refine (U16_short _ [7] _ R2.out (by simp)).mono ?_
  rintro e w3 ⟨rfl, hw⟩
  obtain ⟨hc, hb3⟩ := wrong_facts 2 octetsWord hw
  have B3 := Lib.hid (below_to B2.out hb3 B2.out.size)
  have R3 := Lib.hid (R2.out.below hb3)
  have W3 := Lib.hid (W2.out.below hb3)
  have C3 := Lib.hid hc
  clear hw hb3 B2 R2 W2 hc
  go_wp2_with fail
  refine (left_any _ [7] _ R3.out).mono ?_
  rintro e w' ⟨rfl, rfl⟩
  go_wp2_with fail
  refine (done_some _ [7] _ R3.out (by simp)).mono ?_
  rintro e w4 ⟨rfl, hw⟩
  obtain ⟨hc, hb4⟩ := wrong_facts 3 octetsWord hw
  have B4 := Lib.hid (below_to B3.out hb4 B3.out.size)
  have W4 := Lib.hid (W3.out.below hb4)
  have D4 := Lib.hid hc
  have C4 := Lib.hid (C3.out.below hb4)
  clear hw hb4 B3 R3 W3 hc C3
  go_wp2_with fail
  refine (WU8_any _ none [] 1 _ (by omega) W4.out (by simp)).mono ?_
  rintro e w5 ⟨rfl, row5, hw5, hl5, hf5⟩
  have H5 := Lib.hid (show Wtr w5 _ row5 [1] ∧ Later w4 none row5 ∧ Fr (WtrAt ⟨w1.heap.size, 0, none⟩ none) w4 w5 from ⟨hw5, hl5, hf5⟩)
  clear hw5 hl5 hf5
  go_wp2_with fail
  refine (WU32_any _ row5 [1] 258 _ (by omega) H5.out.1 (by simp)).mono ?_
  rintro e w6 ⟨rfl, hq⟩
  obtain ⟨row6, hw6, hl6, hf6⟩ := Wrote.then H5.out.2.1 H5.out.2.2 hq
  have b6 := hf6.below (B := w.heap.size) B4.out.size (fun x hx => by
    rcases hx with hx | hx
    · subst hx; exact hs1
    · cases hx)
  have hsl : ∀ a, WtrAt ⟨w1.heap.size, 0, none⟩ none a → a.block < w4.heap.size → ∃ B k d, w4.cell? a = some (.slice B k d) := by
    intro a ha _
    rcases ha with rfl | ha
    · exact W4.out.slice
    · cases ha
  have B6 := Lib.hid (below_to B4.out b6 (Nat.le_refl _))
  have C6 := Lib.hid (C4.out.fr hf6 hsl)
  have D6 := Lib.hid (D4.out.fr hf6 hsl)
  have W6 := Lib.hid (show Wtr w6 ⟨w1.heap.size, 0, none⟩ row6 [1, 0, 0, 1, 2] from hw6)
  clear hq hw6 hl6 hf6 b6 hsl B4 C4 D4 W4 H5
  go_wp2_with fail
  refine (code_any 2 _ _ _ (HG.out.below B6.out) C6.out).mono ?_
  rintro e w7 ⟨rfl, hb7⟩
  have B7 := Lib.hid (below_to B6.out hb7 B6.out.size)
  have C7 := Lib.hid (C6.out.below hb7)
  have D7 := Lib.hid (D6.out.below hb7)
  have W7 := Lib.hid (W6.out.below hb7)
  clear hb7 B6 C6 D6 W6
  go_wp2_with fail
  refine (told_any 2 (by omega) [octetsWord] _ _ (by decide) C7.out).mono ?_
  rintro e w8 ⟨he, m, hw8⟩
  have he' : e = .returned (.string ⟨#[111, 99, 116, 101, 116, 115, 58, 32, 101, 114, 114, 111, 114, 32, 50]⟩) := he
  subst he'
  have hb8 : Below w7.heap.size w7 w8 := by subst hw8; exact ⟨rfl, rfl, rfl, Nat.le_refl _, fun _ _ => rfl⟩
  have B8 := Lib.hid (below_to B7.out hb8 B7.out.size)
  have D8 := Lib.hid (D7.out.below hb8)
  have W8 := Lib.hid (W7.out.below hb8)
  clear he hw8 hb8 B7 C7 D7 W7
  go_wp2_with fail
  refine (code_any 3 _ _ _ (HG.out.below B8.out) D8.out).mono ?_
  rintro e w9 ⟨rfl, hb9⟩
  have B9 := Lib.hid (below_to B8.out hb9 B8.out.size)
  have W9 := Lib.hid (W8.out.below hb9)
  clear hb9 B8 D8 W8
  go_wp2_with fail
  refine (WDone_any _ _ _ _ W9.out (by simp)).mono ?_
  rintro e w10 ⟨rfl, hw⟩
  obtain ⟨hrd, hb10⟩ := done_facts hw
  have hcv : (convert 25 9 (.slice (some ⟨w9.heap.size, 0, none⟩) 5 5)).run Tryd.prog w10 = .ok (.string ⟨#[1, 0, 0, 1, 2]⟩) w10 := convert_rd hrd
  have B10 := Lib.hid (below_to B9.out hb10 B9.out.size)
  clear hw hb10 B9 W9 hrd
  go_wp2_with fail
  go_ret
  exact ⟨rfl, B10.out⟩
end Go.Proofs.YtmkfinpkidfohaaDoor
