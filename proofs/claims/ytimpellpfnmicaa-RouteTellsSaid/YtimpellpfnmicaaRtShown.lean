/-
  What is proved: what layer 8's laws begin with ('shown') is true.
  Conditions: none.
-/
import Derived.Test.YtimpellpfnmicaaRtList
import Derived.Test.YtimpellpfnmicaaRtFind
namespace Go.Proofs.Ytimpellpfnmicaa
open Go.RowKit

def sh1 : Rt := ⟨167772160, 8, 0, 1⟩
def sh2 : Rt := ⟨167837696, 16, 0, 2⟩
def sh3 : Rt := ⟨1, 8, 0, 0⟩
theorem sh1_in : sh1.In := ⟨⟨by decide, by decide⟩, ⟨by decide, by decide⟩, ⟨by decide, by decide⟩, ⟨by decide, by decide⟩⟩
theorem sh2_in : sh2.In := ⟨⟨by decide, by decide⟩, ⟨by decide, by decide⟩, ⟨by decide, by decide⟩, ⟨by decide, by decide⟩⟩
theorem sh3_in : sh3.In := ⟨⟨by decide, by decide⟩, ⟨by decide, by decide⟩, ⟨by decide, by decide⟩, ⟨by decide, by decide⟩⟩
theorem sh_c1 : addCode [] sh1 = 0 := by decide
theorem sh_l1 : addL [] sh1 = [sh1] := by rfl
theorem sh_c2 : addCode [sh1] sh2 = 0 := by decide
theorem sh_l2 : addL [sh1] sh2 = [sh1, sh2] := by rfl
theorem sh_c3 : addCode [sh1, sh2] sh3 = 1 := by decide
theorem sh_l3 : addL [sh1, sh2] sh3 = [sh1, sh2] := by rfl
theorem sh_f1 : fnd [sh1, sh2] 167837701 33 = some sh2 := by rfl
theorem sh_f2 : fnd [sh1, sh2] 167903232 33 = some sh1 := by rfl
theorem sh_f3 : fnd [sh1, sh2] 1 33 = none := by rfl
theorem sh_d : delCode [sh1, sh2] 1 1 = 6 := by decide

theorem below_grown {B b : Nat} {w0 w w' : World} (h : Below B w0 w) (hB : B ≤ w.heap.size) (hg : w.grownBy w' (some b)) (hb : B ≤ b) : Below B w0 w' := h.grown hg hB (fun k e => by cases e; exact hb)

set_option maxRecDepth 100000 in
set_option maxHeartbeats 4000000 in
theorem shown_any (w : World) : Calls Try.prog 9 #[] w fun e w' => e = .returned (.bool true) ∧ Below w.heap.size w w' := by
  have HN := Lib.hid (fun W => new_any W)
  go_enter Try.func9, Try.ntmps9
  go_upto_region 4 with (go_at_call 10; refine (HN.out _).mono ?_; rintro e w1 ⟨p, b, rfl, hT, hp, hb, hB⟩; (have T0 := Lib.hid hT); (have B0 := Lib.hid hB); (have P0 := Lib.hid (And.intro hp hb)); clear hT hB hp hb)
  have A1 := Lib.hid (add_any [] sh1 sh1_in p b w1 T0.out)
  rw [sh_c1, sh_l1] at A1
  unfold sh1 Rt.val at A1
  go_upto_region 5 with (go_at_call 20; refine A1.out.mono ?_; rintro e w2 ⟨rfl, hT, hG⟩; (have T1 := Lib.hid hT); (have G1 := Lib.hid hG); clear hT hG)
  have B1 := Lib.hid (below_grown B0.out B0.out.size G1.out P0.out.2)
  change Hid (Tab _ _ _ [sh1]) at T1
  have A2 := Lib.hid (add_any [sh1] sh2 sh2_in p b w2 T1.out)
  rw [sh_c2, sh_l2] at A2
  unfold sh2 Rt.val at A2
  go_upto_region 6 with (go_at_call 20; refine A2.out.mono ?_; rintro e w3 ⟨rfl, hT, hG⟩; (have T2 := Lib.hid hT); (have G2 := Lib.hid hG); clear hT hG)
  have B2 := Lib.hid (below_grown B1.out B1.out.size G2.out P0.out.2)
  change Hid (Tab _ _ _ [sh1, sh2]) at T2
  have A3 := Lib.hid (add_any [sh1, sh2] sh3 sh3_in p b w3 T2.out)
  rw [sh_c3, sh_l3] at A3
  unfold sh3 Rt.val at A3
  go_upto_region 7 with (go_at_call 20; refine A3.out.mono ?_; rintro e w4 ⟨rfl, hT, hG⟩; (have T3 := Lib.hid hT); (have G3 := Lib.hid hG); clear hT hG)
  have B3 := Lib.hid (below_grown B2.out B2.out.size G3.out P0.out.2)
  change Hid (Tab _ _ _ [sh1, sh2]) at T3
  have F1 := Lib.hid (fun W h => find_any [sh1, sh2] 167837701 ⟨by decide, by decide⟩ p b W (T3.out.below h))
  rw [sh_f1] at F1
  simp only [Option.getD_some, Option.isSome_some, sh2, Rt.val] at F1
  have F2 := Lib.hid (fun W h => find_any [sh1, sh2] 167903232 ⟨by decide, by decide⟩ p b W (T3.out.below h))
  rw [sh_f2] at F2
  simp only [Option.getD_some, Option.isSome_some, sh1, Rt.val] at F2
  have F3 := Lib.hid (fun W h => find_any [sh1, sh2] 1 ⟨by decide, by decide⟩ p b W (T3.out.below h))
  rw [sh_f3] at F3
  simp only [Option.getD_none, Option.isSome_none, Rt.zero, Rt.val] at F3
  have FL := Lib.hid (fun W h => list_any [sh1, sh2] p b W (T3.out.below h))
  have FD := Lib.hid (fun W h => del_any [sh1, sh2] 1 1 ⟨by decide, by decide⟩ ⟨by decide, by decide⟩ p b W (T3.out.below h))
  rw [sh_d] at FD
  go_upto_region 8 with (go_at_call 15; refine (F1.out _ (Below.refl _ _)).mono ?_; rintro e w5 ⟨rfl, hB⟩; (have C1 := Lib.hid hB); clear hB)
  have X1 := cell_new_at w5 #[.int .u32 167837696, .int .i64 16, .int .u32 0, .int .i64 2] 33 3
  have D1 := Lib.hid (below_al C1.out (.cells #[.int .u32 167837696, .int .i64 16, .int .u32 0, .int .i64 2] 33))
  generalize w5.alloc (.cells #[.int .u32 167837696, .int .i64 16, .int .u32 0, .int .i64 2] 33) = w6 at X1 D1 ⊢
  generalize w5.heap.size = n5 at X1 ⊢
  go_upto_region 9 with (go_at_call 15; refine (F2.out _ D1.out).mono ?_; rintro e w7 ⟨rfl, hB⟩; (have C2 := Lib.hid hB); clear hB)
  have Y1 := (C2.out.cell (World.block_lt_of_cell? w6 _ X1)).trans X1
  have C2' := Lib.hid (below_to D1.out C2.out D1.out.size)
  have X2 := cell_new_at w7 #[.int .u32 167772160, .int .i64 8, .int .u32 0, .int .i64 1] 33 3
  have Z1 := (((Below.refl _ w7).alloc (Nat.le_refl _) (.cells #[.int .u32 167772160, .int .i64 8, .int .u32 0, .int .i64 1] 33)).cell (World.block_lt_of_cell? w7 _ Y1)).trans Y1
  have D2 := Lib.hid (below_al C2'.out (.cells #[.int .u32 167772160, .int .i64 8, .int .u32 0, .int .i64 1] 33))
  clear X1 Y1
  generalize w7.alloc (.cells #[.int .u32 167772160, .int .i64 8, .int .u32 0, .int .i64 1] 33) = w8 at X2 Z1 D2 ⊢
  generalize w7.heap.size = n7 at X2 ⊢
  go_upto_region 10 with (go_at_call 15; refine (F3.out _ D2.out).mono ?_; rintro e w9 ⟨rfl, hB⟩; (have C3 := Lib.hid hB); clear hB)
  have Y1 := (C3.out.cell (World.block_lt_of_cell? w8 _ Z1)).trans Z1
  have Y2 := (C3.out.cell (World.block_lt_of_cell? w8 _ X2)).trans X2
  have C3' := Lib.hid (below_to D2.out C3.out D2.out.size)
  have V1 := (((Below.refl _ w9).alloc (Nat.le_refl _) (.cells #[.int .u32 0, .int .i64 0, .int .u32 0, .int .i64 0] 33)).cell (World.block_lt_of_cell? w9 _ Y1)).trans Y1
  have V2 := (((Below.refl _ w9).alloc (Nat.le_refl _) (.cells #[.int .u32 0, .int .i64 0, .int .u32 0, .int .i64 0] 33)).cell (World.block_lt_of_cell? w9 _ Y2)).trans Y2
  have D3 := Lib.hid (below_al C3'.out (.cells #[.int .u32 0, .int .i64 0, .int .u32 0, .int .i64 0] 33))
  clear X2 Z1 Y1 Y2
  generalize w9.alloc (.cells #[.int .u32 0, .int .i64 0, .int .u32 0, .int .i64 0] 33) = w10 at V1 V2 D3 ⊢
  generalize w9.heap.size = n9
  clear F1 F2 F3
  go_wp2_with (first
    | (go_at_call 17; refine (FL.out _ D3.out).mono ?_; rintro e w11 ⟨A, c, rfl, _, _, _, _, hB⟩; (have C4 := Lib.hid (below_to D3.out hB D3.out.size)); clear hB)
    | (go_at_call 21; refine (FD.out _ C4.out).mono ?_; rintro e w12 ⟨rfl, _, hG⟩; (have G5 := Lib.hid hG); clear hG))
  go_ret
  refine ⟨rfl, ?_⟩
  have E1 := below_to B3.out C4.out B3.out.size
  exact below_grown E1 E1.size G5.out P0.out.2
end Go.Proofs.Ytimpellpfnmicaa
