/-
  What is proved: 'shown' of the laws of layer 3 answers true, and leaves all older memory as it was.
  Conditions: errors.errorType holds the handle of the type error; api.All holds six times 255.
-/
import Derived.Test.YtifjelinojndoaaDoorEBytesDo
import Derived.Test.YtifjelinojndoaaDoorSRow
namespace Go.Proofs.YtifjelinojndoaaDoor
open Go.RowKit

theorem mac_eqI (a0 a1 a2 a3 a4 a5 b0 b1 b2 b3 b4 b5 : Int) (w : World) : (Op.equalIn 10000 24 (.agg #[.int .u8 a0, .int .u8 a1, .int .u8 a2, .int .u8 a3, .int .u8 a4, .int .u8 a5]) (.agg #[.int .u8 b0, .int .u8 b1, .int .u8 b2, .int .u8 b3, .int .u8 b4, .int .u8 b5])).run Tryd.prog w =
    .ok (a0 == b0 && (a1 == b1 && (a2 == b2 && (a3 == b3 && (a4 == b4 && a5 == b5))))) w := by
  have u5 := Tryd.underlying5
  have g5 := Tryd.isAgg5
  have z5 := Tryd.sizeOf5
  rw [show (10000 : Nat) = 9999 + 1 from rfl, Op.equalIn]
  simp only [Sem.run_bind, run_underlying Tryd.underlying24, Result.andThen_ok]
  simp only [Std.Legacy.Range.forIn_eq_forIn_range', Std.Legacy.Range.size, Nat.sub_zero, Nat.add_sub_cancel, Nat.div_one, List.range'_succ, List.range'_zero, List.forIn_cons, List.forIn_nil]
  go_simp
  by_cases h0 : a0 = b0
  · by_cases h1 : a1 = b1
    · by_cases h2 : a2 = b2
      · by_cases h3 : a3 = b3
        · by_cases h4 : a4 = b4
          · by_cases h5 : a5 = b5 <;> simp [h0, h1, h2, h3, h4, h5]
          · simp [h0, h1, h2, h3, h4]
        · simp [h0, h1, h2, h3]
      · simp [h0, h1, h2]
    · simp [h0, h1]
  · simp [h0]
/-- The variable api.All as the program's text lays it. -/
structure AllAt (w : World) : Prop where
  c0 : w.cell? ⟨0, 0, none⟩ = some (.int .u8 255)
  c1 : w.cell? ⟨0, 1, none⟩ = some (.int .u8 255)
  c2 : w.cell? ⟨0, 2, none⟩ = some (.int .u8 255)
  c3 : w.cell? ⟨0, 3, none⟩ = some (.int .u8 255)
  c4 : w.cell? ⟨0, 4, none⟩ = some (.int .u8 255)
  c5 : w.cell? ⟨0, 5, none⟩ = some (.int .u8 255)
theorem AllAt.below {w w' : World} (h : AllAt w) (hb : Below w.heap.size w w') : AllAt w' :=
  have hl : 0 < w.heap.size := World.block_lt_of_cell? w _ h.c0
  ⟨(hb.cell (p := ⟨_, 0, none⟩) hl).trans h.c0, (hb.cell (p := ⟨_, 1, none⟩) hl).trans h.c1, (hb.cell (p := ⟨_, 2, none⟩) hl).trans h.c2, (hb.cell (p := ⟨_, 3, none⟩) hl).trans h.c3, (hb.cell (p := ⟨_, 4, none⟩) hl).trans h.c4, (hb.cell (p := ⟨_, 5, none⟩) hl).trans h.c5⟩

def shBs : List UInt8 := [255, 255, 255, 255, 255, 255, 2, 2, 2, 2, 2, 2, 129, 0, 0, 5, 8, 6, 9]
def shFrm : Frm := ⟨⟨255, 255, 255, 255, 255, 255⟩, ⟨2, 2, 2, 2, 2, 2⟩, 5, 2054, [9]⟩
theorem shFrm_ok : shFrm.Ok := ⟨by decide, .inr ⟨by decide, by decide⟩⟩
theorem shFrm_bs : shFrm.bs = shBs := by decide
def shObj (bv : Value) : Obj := .cells #[.int .u8 255, .int .u8 255, .int .u8 255, .int .u8 255, .int .u8 255, .int .u8 255, .int .u8 2, .int .u8 2, .int .u8 2, .int .u8 2, .int .u8 2, .int .u8 2, .int .i64 5, .int .u16 2054, bv] 27
theorem shObj_cells {W : World} {g : Nat} {bv : Value} (h : W.heap[g]? = some (shObj bv)) :
    W.cell? ⟨g, 0, none⟩ = some (.int .u8 255) ∧ W.cell? ⟨g, 1, none⟩ = some (.int .u8 255) ∧ W.cell? ⟨g, 2, none⟩ = some (.int .u8 255) ∧ W.cell? ⟨g, 3, none⟩ = some (.int .u8 255) ∧ W.cell? ⟨g, 4, none⟩ = some (.int .u8 255) ∧ W.cell? ⟨g, 5, none⟩ = some (.int .u8 255) ∧
    W.cell? ⟨g, 6, none⟩ = some (.int .u8 2) ∧ W.cell? ⟨g, 7, none⟩ = some (.int .u8 2) ∧ W.cell? ⟨g, 8, none⟩ = some (.int .u8 2) ∧ W.cell? ⟨g, 9, none⟩ = some (.int .u8 2) ∧ W.cell? ⟨g, 10, none⟩ = some (.int .u8 2) ∧ W.cell? ⟨g, 11, none⟩ = some (.int .u8 2) ∧
    W.cell? ⟨g, 12, none⟩ = some (.int .i64 5) ∧ W.cell? ⟨g, 13, none⟩ = some (.int .u16 2054) ∧ W.cell? ⟨g, 14, none⟩ = some bv := by
  unfold shObj at h
  refine ⟨?_, ?_, ?_, ?_, ?_, ?_, ?_, ?_, ?_, ?_, ?_, ?_, ?_, ?_, ?_⟩ <;> (rw [cell_of_row W g _ _ _ _ h]; rfl)

set_option maxRecDepth 100000 in
set_option maxHeartbeats 4000000 in
theorem shown_any (w : World) (hg : Hdl w) (ha : AllAt w) : Calls Tryd.prog 4 #[] w fun e w' => e = .returned (.bool true) ∧ Below w.heap.size w w' := by
  have hb0 : Below w.heap.size w (w.alloc (bytesObj shBs)) := (Below.refl _ _).alloc (Nat.le_refl _) _
  have hr0 : Rd (w.alloc (bytesObj shBs)) (.slice (some ⟨w.heap.size, 0, none⟩) shFrm.bs.length 19) shFrm.bs := by rw [shFrm_bs]; exact Rd.of_obj (bytesObj_new w _) (Nat.le_refl _)
  have B0 := Lib.hid hb0
  have R0 := Lib.hid hr0
  have G0 := Lib.hid hg
  have A0 := Lib.hid ha
  clear hb0 hr0 hg ha
  go_enter Tryd.func4, Tryd.ntmps4
  go_wp2_with fail
  refine (Parse_ok _ shFrm shFrm_ok _ R0.out (by rw [shFrm_bs]; decide)).mono ?_
  rintro e w1 ⟨b1, he, hb1, ho1, hl1⟩
  have he' : e = .returned (.tuple #[.agg #[.int .u8 255, .int .u8 255, .int .u8 255, .int .u8 255, .int .u8 255, .int .u8 255, .int .u8 2, .int .u8 2, .int .u8 2, .int .u8 2, .int .u8 2, .int .u8 2, .int .i64 5, .int .u16 2054, .slice (some ⟨b1, 0, none⟩) 1 1], .nilIface]) := he
  subst he'
  have B1 := Lib.hid (below_to B0.out hl1 B0.out.size)
  have R1 := Lib.hid (R0.out.below hl1)
  have O1 := Lib.hid ho1
  clear he hb1 ho1 hl1 R0
  go_wp2_with fail
  have o2 : (w1.alloc (shObj (.slice (some ⟨b1, 0, none⟩) 1 1))).heap[w1.heap.size]? = some (shObj (.slice (some ⟨b1, 0, none⟩) 1 1)) := heap_alloc_new w1 _
  have b2 : Below w1.heap.size w1 (w1.alloc (shObj (.slice (some ⟨b1, 0, none⟩) 1 1))) := below_al (Below.refl _ _) _
  have q2 : Rd (w1.alloc (shObj (.slice (some ⟨b1, 0, none⟩) 1 1))) (.slice (some ⟨b1, 0, none⟩) shFrm.b.length 1) shFrm.b := (show Rd w1 _ _ from Rd.of_obj O1.out (Nat.le_refl _)).below b2
  have FB := Lib.hid (fBytes_ok shFrm shFrm_ok (some ⟨b1, 0, none⟩) 1 _ q2 (by rw [shFrm_bs]; decide))
  have B2 := Lib.hid (below_to B1.out b2 B1.out.size)
  have R2 := Lib.hid (R1.out.below b2)
  have Q2 := Lib.hid q2
  have O2 := Lib.hid o2
  clear B1 R1 O1 b2 q2 o2
  refine FB.out.mono ?_
  rintro e w3 ⟨b3, rfl, hb3, ho3, hl3⟩
  have B3 := Lib.hid (below_to B2.out hl3 B2.out.size)
  have R3 := Lib.hid (R2.out.below hl3)
  have Q3 := Lib.hid (Q2.out.below hl3)
  have o3 : w3.heap[w1.heap.size]? = some (shObj (.slice (some ⟨b1, 0, none⟩) 1 1)) := (hl3.block _ (by simp)).trans O2.out
  have O3 := Lib.hid o3
  have S3 := Lib.hid (show Rd w3 (.slice (some ⟨b3, 0, none⟩) shFrm.bs.length shFrm.bs.length) shFrm.bs from Rd.of_obj ho3 (Nat.le_refl _))
  clear FB B2 R2 Q2 O2 hb3 ho3 hl3 o3
  rw [shFrm_bs] at R3 S3 ⊢
  generalize w1.heap.size = g1 at *
  go_wp2_with fail
  refine (Parse_short _ (shBs.take 17) _ (R3.out.front (K := 17) (by decide)) (by decide) (.inr (.inr ⟨⟨255, 255, 255, 255, 255, 255⟩, ⟨2, 2, 2, 2, 2, 2⟩, [129, 0, 0, 5, 8], by decide, .inr ⟨[0, 5, 8], rfl, by decide⟩⟩))).mono ?_
  rintro e w4 ⟨b4, he, hc4, hl4⟩
  have he' : e = .returned (.tuple #[.agg #[.int .u8 0, .int .u8 0, .int .u8 0, .int .u8 0, .int .u8 0, .int .u8 0, .int .u8 0, .int .u8 0, .int .u8 0, .int .u8 0, .int .u8 0, .int .u8 0, .int .i64 0, .int .u16 0, .slice none 0 0], .iface 64 (.pointer (some ⟨b4, 0, none⟩))]) := he
  subst he'
  have hn : Below w4.heap.size w4 (w4.alloc noObj) := below_al (Below.refl _ _) _
  have hl5 : Below w3.heap.size w3 (w4.alloc noObj) := below_to hl4 hn hl4.size
  have B4 := Lib.hid (below_to B3.out hl5 B3.out.size)
  have R4 := Lib.hid (R3.out.below hl5)
  have Q4 := Lib.hid (Q3.out.below hl5)
  have S4 := Lib.hid (S3.out.below hl5)
  have C4 := Lib.hid (hc4.below hn)
  have o4 : (w4.alloc noObj).heap[g1]? = some (shObj (.slice (some ⟨b1, 0, none⟩) 1 1)) := (hl5.block _ (Array.getElem?_eq_some_iff.1 O3.out).1).trans O3.out
  have O4 := Lib.hid o4
  clear he B3 R3 Q3 S3 O3 hc4 hl4 hn hl5 o4
  go_wp2_with fail
  have FB := Lib.hid (fBytes_arg ⟨.zero, .zero, -2, 0, []⟩ ⟨by decide, .inr (.inl (by decide))⟩ none 0 0 (w4.alloc noObj))
  refine FB.out.mono ?_
  rintro e w5 ⟨b5, rfl, hc5, hl5⟩
  have B5 := Lib.hid (below_to B4.out hl5 B4.out.size)
  have R5 := Lib.hid (R4.out.below hl5)
  have Q5 := Lib.hid (Q4.out.below hl5)
  have S5 := Lib.hid (S4.out.below hl5)
  have C5 := Lib.hid (C4.out.below hl5)
  have o5 : w5.heap[g1]? = some (shObj (.slice (some ⟨b1, 0, none⟩) 1 1)) := (hl5.block _ (Array.getElem?_eq_some_iff.1 O4.out).1).trans O4.out
  have O5 := Lib.hid o5
  have D5 := Lib.hid hc5
  clear FB B4 R4 Q4 S4 C4 O4 hc5 hl5 o5
  obtain ⟨k0, k1, k2, k3, k4, k5, k6, k7, k8, k9, k10, k11, k12, k13, k14⟩ := shObj_cells O5.out
  obtain ⟨a0, a1, a2, a3, a4, a5⟩ := A0.out.below B5.out
  have v1 : (convert 22 9 (.slice (some ⟨w.heap.size, 0, none⟩) 19 19)).run Tryd.prog w5 = .ok (.string (txt shBs)) w5 := convert_rd R5.out
  have v2 : (convert 22 9 (.slice (some ⟨b1, 0, none⟩) 1 1)).run Tryd.prog w5 = .ok (.string ⟨#[9]⟩) w5 := convert_rd Q5.out
  have v3 := convert_rd S5.out
  have e1 := mac_eqI 255 255 255 255 255 255 255 255 255 255 255 255 w5
  go_wp2_with fail
  refine (code_any 2 _ _ _ (G0.out.below B5.out) C5.out).mono ?_
  rintro e w6 ⟨rfl, hl6⟩
  have B6 := Lib.hid (below_to B5.out hl6 B5.out.size)
  have D6 := Lib.hid (D5.out.below hl6)
  have O6 := Lib.hid ((hl6.block _ (Array.getElem?_eq_some_iff.1 O5.out).1).trans O5.out)
  clear B5 R5 Q5 S5 C5 O5 D5 hl6 k0 k1 k2 k3 k4 k5 k6 k7 k8 k9 k10 k11 k12 k13 k14 a0 a1 a2 a3 a4 a5 v1 v2 v3 e1
  go_wp2_with fail
  refine (told_any 1 (by omega) [etherWord] _ _ (by decide) D6.out).mono ?_
  rintro e w7 ⟨he, m, hw7⟩
  have he' : e = .returned (.string ⟨#[101, 116, 104, 101, 114, 58, 32, 101, 114, 114, 111, 114, 32, 49]⟩) := he
  subst he'
  have hl7 : Below w6.heap.size w6 w7 := by subst hw7; exact ⟨rfl, rfl, rfl, Nat.le_refl _, fun _ _ => rfl⟩
  have B7 := Lib.hid (below_to B6.out hl7 B6.out.size)
  have o7 : w7.heap[g1]? = some (shObj (.slice (some ⟨b1, 0, none⟩) 1 1)) := (hl7.block _ (Array.getElem?_eq_some_iff.1 O6.out).1).trans O6.out
  have O7 := Lib.hid o7
  clear he hw7 hl7 B6 O6 D6 o7
  obtain ⟨k0, k1, k2, k3, k4, k5, k6, k7, k8, k9, k10, k11, k12, k13, k14⟩ := shObj_cells O7.out
  go_wp2_with fail
  refine (Group_any ⟨255, 255, 255, 255, 255, 255⟩ _).mono ?_
  rintro e w8 ⟨he, hl8⟩
  have he' : e = .returned (.bool true) := he
  subst he'
  have B8 := Lib.hid (below_to B7.out hl8 B7.out.size)
  have o8 : w8.heap[g1]? = some (shObj (.slice (some ⟨b1, 0, none⟩) 1 1)) := (hl8.block _ (Array.getElem?_eq_some_iff.1 O7.out).1).trans O7.out
  have O8 := Lib.hid o8
  clear he hl8 B7 O7 o8 k0 k1 k2 k3 k4 k5 k6 k7 k8 k9 k10 k11 k12 k13 k14
  obtain ⟨k0, k1, k2, k3, k4, k5, k6, k7, k8, k9, k10, k11, k12, k13, k14⟩ := shObj_cells O8.out
  go_wp2_with fail
  refine (Group_any ⟨2, 2, 2, 2, 2, 2⟩ _).mono ?_
  rintro e w9 ⟨he, hl9⟩
  have he' : e = .returned (.bool false) := he
  subst he'
  have B9 := Lib.hid (below_to B8.out hl9 B8.out.size)
  clear he hl9 B8
  go_wp2_with fail
  go_ret
  exact ⟨rfl, B9.out⟩
end Go.Proofs.YtifjelinojndoaaDoor
