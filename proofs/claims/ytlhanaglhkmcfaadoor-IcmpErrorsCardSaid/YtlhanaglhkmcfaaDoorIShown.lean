/-
  What is proved: 'shown' of the laws of layer 7 answers true, and leaves all older memory as it was.
  Conditions: none of its own.
-/
import Derived.Test.YtlhanaglhkmcfaaDoorIError
import Derived.Test.YtlhanaglhkmcfaaDoorIBytes
namespace Go.Proofs.YtlhanaglhkmcfaaDoor
open Go.RowKit

def shM : Ms := ⟨8, 0, 1, []⟩
theorem shM_in : shM.In := ⟨by decide, by decide, by decide, by decide⟩
theorem shM_bs : shM.bs = [8, 0, 247, 254, 0, 0, 0, 1] := by decide
theorem ish1 (w : World) : Calls Tryd.prog 6 #[.agg #[.int .u8 8, .int .u8 0, .int .u32 1, .slice none 0 0]] w fun e w' => ∃ b, e = .returned (.slice (some ⟨b, 0, none⟩) 8 8) ∧ w.heap.size ≤ b ∧ BAt w' b [8, 0, 247, 254, 0, 0, 0, 1] ∧ Below w.heap.size w w' := by
  have h := iBytes_any shM shM_in none 0 w (Rd.nil w)
  rw [shM_bs] at h
  exact h
theorem ish2 (w : World) (b : Nat) (hb : BAt w b [8, 0, 247, 254, 0, 0, 0, 1]) : Calls Tryd.prog 7 #[.slice (some ⟨b, 0, none⟩) 8 8] w fun e w' => ∃ b, e = .returned (.tuple #[.agg #[.int .u8 8, .int .u8 0, .int .u32 1, .slice (some ⟨b, 0, none⟩) 0 0], .nilIface]) ∧ Below w.heap.size w w' := by
  refine (iParse_of shM shM_in _ w (by rw [shM_bs]; exact hb.rd)).mono ?_
  rintro e w' ⟨b, rfl, _, _, h⟩
  exact ⟨b, rfl, h⟩
def shP : Ip := ⟨0, 0, false, false, 0, 0, 17, 0, 0, List.replicate 20 0⟩
theorem shP_in : shP.In := ⟨by decide, by decide, by decide, by decide, by decide, by decide, by decide, by decide⟩
theorem shP_bad : shP.bad = 0 := by decide
theorem ish3 (w : World) (g : Nat) (hg : BAt w g (List.replicate 20 0)) : Calls Tryd.prog 10 #[.agg #[.int .u8 0, .int .u16 0, .bool false, .bool false, .int .i64 0, .int .u8 0, .int .u8 17, .int .u32 0, .int .u32 0, .slice (some ⟨g, 0, none⟩) 20 20]] w fun e w' => ∃ b, e = .returned (.tuple #[.slice (some ⟨b, 0, none⟩) 40 40, .nilIface]) ∧ w.heap.size ≤ b ∧ BAt w' b shP.bs ∧ Below w.heap.size w w' :=
  vBytes_ok shP shP_in shP_bad (some ⟨g, 0, none⟩) 20 w hg.rd
theorem shP_len : shP.bs.length = 40 := by rw [Ip.bs_len]; rfl
theorem ish4 (w : World) (b : Nat) (hb : BAt w b shP.bs) : Calls Tryd.prog 11 #[.slice (some ⟨b, 0, none⟩) 40 40, .int .u8 3, .int .u8 4, .int .u32 1400] w fun e w' => ∃ b k, e = .returned (.tuple #[.agg #[.int .u8 3, .int .u8 4, .int .u32 1400, .slice (some ⟨b, 0, none⟩) 28 k], .nilIface]) ∧ Rd w' (.slice (some ⟨b, 0, none⟩) 28 k) (shP.bs.take 28) ∧ Below w.heap.size w w' := by
  have h := iError_ok shP shP_in shP_bad (by decide) b 40 3 4 1400 w (by have := hb.rd; rw [shP_len] at this ⊢; exact this) (by rw [shP_len]; decide)
  rw [shP_len] at h
  refine h.mono ?_
  rintro e w' ⟨b, k, rfl, _, h1, h2⟩
  exact ⟨b, k, rfl, h1, h2⟩
theorem ish5 (bv : Value) (w : World) : Calls Tryd.prog 12 #[.agg #[.int .u8 3, .int .u8 4, .int .u32 1400, bv]] w fun e w' => e = .returned (.tuple #[.int .i64 1400, .bool true]) ∧ Below w.heap.size w w' :=
  mtu_any ⟨3, 4, 1400, []⟩ (by decide) bv w
theorem ish6 (w : World) : Calls Tryd.prog 11 #[.slice none 0 0, .int .u8 3, .int .u8 4, .int .u32 0] w (MW 2 [icmpWord, ipWord, octetsWord] w) :=
  iError_short [] _ 3 4 0 w (Rd.nil w) (by decide)
set_option maxRecDepth 100000 in
set_option maxHeartbeats 4000000 in
theorem iShown_any (w : World) : Calls Tryd.prog 5 #[] w fun e w' => e = .returned (.bool true) ∧ Below w.heap.size w w' := by
  have HP : Hid (MsAt (w.alloc (.cells #[.int .u8 8, .int .u8 0, .int .u32 1, .slice none 0 0] 25)) w.heap.size shM (.slice none 0 0)) := MsAt.new w shM (.slice none 0 0)
  have HB : Hid (Below w.heap.size w (w.alloc (.cells #[.int .u8 8, .int .u8 0, .int .u32 1, .slice none 0 0] 25))) := below_al (Below.refl w.heap.size w) _
  generalize hW : w.alloc (.cells #[.int .u8 8, .int .u8 0, .int .u32 1, .slice none 0 0] 25) = W0 at HP HB
  have HWW := Lib.hid hW
  clear hW
  go_enter Tryd.func5, Tryd.ntmps5
  go_upto_region 2 with fail
  rw [HWW.out]
  clear HWW
  generalize hn : w.heap.size = n at *
  have HW := Lib.hid hn
  clear hn
  obtain ⟨c0, c1, c2, c3⟩ := (show _ ∧ _ from HP.out.cells)
  unfold shM at c0 c1 c2
  simp only at c0 c1 c2
  go_wp2_with fail
  refine (ish1 W0).mono ?_
  rintro e w1 ⟨b, rfl, _, hbo, hl1⟩
  have HB1 := Lib.hid (ibelow_on HB.out HW.out hl1)
  have HY1 := Lib.hid hbo
  clear HP HB hbo hl1 c0 c1 c2 c3
  go_wp2_with fail
  refine (ish2 w1 b HY1.out).mono ?_
  rintro e w2 ⟨b2, rfl, hl2⟩
  have hb3 := below_al (Below.refl w2.heap.size w2) (.cells #[.int .u8 8, .int .u8 0, .int .u32 1, .slice (some ⟨b2, 0, none⟩) 0 0] 25)
  have l3 := below_to hl2 hb3 hl2.size
  have HP3 : Hid (MsAt (w2.alloc (.cells #[.int .u8 8, .int .u8 0, .int .u32 1, .slice (some ⟨b2, 0, none⟩) 0 0] 25)) w2.heap.size shM (.slice (some ⟨b2, 0, none⟩) 0 0)) := MsAt.new w2 shM _
  have HB3 := Lib.hid (ibelow_on HB1.out HW.out l3)
  have HY3 := Lib.hid (HY1.out.below l3)
  clear hl2 hb3 l3 HB1 HY1
  go_upto_region 4 with fail
  generalize w2.alloc (.cells #[.int .u8 8, .int .u8 0, .int .u32 1, .slice (some ⟨b2, 0, none⟩) 0 0] 25) = W3 at *
  generalize w2.heap.size = g3 at *
  have hmk : (Instr.makeSlice 23 (.int .i64 20) (.int .i64 20)).run Tryd.prog W3 = .ok (.slice (some ⟨W3.heap.size, 0, none⟩) 20 20) (W3.alloc (bytesObj (List.replicate 20 0))) := make_bytes 20 (by decide) W3
  have hb4 := below_al (Below.refl W3.heap.size W3) (bytesObj (List.replicate 20 0))
  have HN4 : Hid (BAt (W3.alloc (bytesObj (List.replicate 20 0))) W3.heap.size (List.replicate 20 0)) := heap_alloc_new W3 _
  have HP4 := Lib.hid (HP3.out.below hb4)
  have HB4 := Lib.hid (ibelow_on HB3.out HW.out hb4)
  have HY4 := Lib.hid (HY3.out.below hb4)
  clear hb4 HP3 HB3 HY3
  generalize W3.alloc (bytesObj (List.replicate 20 0)) = W4 at *
  generalize W3.heap.size = g4 at *
  go_wp2_with fail
  refine (ish3 W4 g4 HN4.out).mono ?_
  rintro e w5 ⟨b5, rfl, _, hy5, hl5⟩
  have HY5 := Lib.hid hy5
  have HP5 := Lib.hid (HP4.out.below hl5)
  have HZ5 := Lib.hid (HY4.out.below hl5)
  have HB5 := Lib.hid (ibelow_on HB4.out HW.out hl5)
  clear hmk hy5 hl5 HP4 HB4 HY4 HN4
  go_wp2_with fail
  refine (ish4 w5 b5 HY5.out).mono ?_
  rintro e w6 ⟨b6, k6, rfl, hr6, hl6⟩
  have hb7 := below_al (Below.refl w6.heap.size w6) (.cells #[.int .u8 3, .int .u8 4, .int .u32 1400, .slice (some ⟨b6, 0, none⟩) 28 k6] 25)
  have l7 := below_to hl6 hb7 hl6.size
  have HM7 : Hid (MsAt (w6.alloc (.cells #[.int .u8 3, .int .u8 4, .int .u32 1400, .slice (some ⟨b6, 0, none⟩) 28 k6] 25)) w6.heap.size ⟨3, 4, 1400, []⟩ (.slice (some ⟨b6, 0, none⟩) 28 k6)) := MsAt.new w6 ⟨3, 4, 1400, []⟩ _
  have HR7 := Lib.hid (hr6.below hb7)
  have HY7 := Lib.hid (HY5.out.below l7)
  have HP7 := Lib.hid (HP5.out.below l7)
  have HZ7 := Lib.hid (HZ5.out.below l7)
  have HB7 := Lib.hid (ibelow_on HB5.out HW.out l7)
  clear hr6 hl6 hb7 l7 HY5 HP5 HZ5 HB5
  go_upto_region 6 with fail
  generalize w6.alloc (.cells #[.int .u8 3, .int .u8 4, .int .u32 1400, .slice (some ⟨b6, 0, none⟩) 28 k6] 25) = W7 at *
  generalize w6.heap.size = g7 at *
  obtain ⟨c0, c1, c2, c3⟩ := HM7.out.cells
  simp only at c0 c1 c2 c3
  go_wp2_with fail
  refine (ish5 _ W7).mono ?_
  rintro e w8 ⟨rfl, hl8⟩
  have HM8 := Lib.hid (HM7.out.below hl8)
  have HR8 := Lib.hid (HR7.out.below hl8)
  have HY8 := Lib.hid (HY7.out.below hl8)
  have HP8 := Lib.hid (HP7.out.below hl8)
  have HZ8 := Lib.hid (HZ7.out.below hl8)
  have HB8 := Lib.hid (ibelow_on HB7.out HW.out hl8)
  clear c0 c1 c2 c3 hl8 HM7 HR7 HY7 HP7 HZ7 HB7
  go_wp2_with fail
  refine (ish6 w8).mono ?_
  rintro e w9 ⟨b9, rfl, hc9, hl9⟩
  have hb10 := below_al (Below.refl w9.heap.size w9) noMsObj
  have l10 := below_to hl9 hb10 hl9.size
  have HC10 := Lib.hid (hc9.below hb10)
  have HM10 := Lib.hid (HM8.out.below l10)
  have HR10 := Lib.hid (HR8.out.below l10)
  have HY10 := Lib.hid (HY8.out.below l10)
  have HP10 := Lib.hid (HP8.out.below l10)
  have HZ10 := Lib.hid (HZ8.out.below l10)
  have HB10 := Lib.hid (ibelow_on HB8.out HW.out l10)
  clear hc9 hl9 hb10 l10 HM8 HR8 HY8 HP8 HZ8 HB8
  unfold noMsObj at HC10 HM10 HR10 HY10 HP10 HZ10 HB10
  go_upto_region 8 with fail
  generalize w9.alloc (.cells #[.int .u8 0, .int .u8 0, .int .u32 0, .slice none 0 0] 25) = W10 at *
  obtain ⟨T, hT⟩ : ∃ T, txt (shP.bs.take 28) = T := ⟨_, rfl⟩
  have KS : Hid (∀ W, Below W10.heap.size W10 W → W.cell? ⟨g7, 3, none⟩ = some (.slice (some ⟨b6, 0, none⟩) 28 k6) ∧ W.cell? ⟨g3, 0, none⟩ = some (.int .u8 8) ∧ W.cell? ⟨g3, 2, none⟩ = some (.int .u32 1) ∧ (convert 23 9 (.slice (some ⟨b, 0, none⟩) 8 8)).run Tryd.prog W = .ok (.string ⟨#[8, 0, 247, 254, 0, 0, 0, 1]⟩) W ∧ (convert 23 9 (.slice (some ⟨b6, 0, none⟩) 28 k6)).run Tryd.prog W = .ok (.string T) W ∧ (convert 23 9 (.slice (some ⟨b5, 0, none⟩) 28 40)).run Tryd.prog W = .ok (.string T) W) := fun W h => by
    refine ⟨(HM10.out.below h).cells.2.2.2, (HP10.out.below h).cells.1, (HP10.out.below h).cells.2.2.1, convert_rd (HZ10.out.below h).rd, ?_, ?_⟩
    · rw [← hT]; exact convert_rd (HR10.out.below h)
    · rw [← hT]
      have k := (HY10.out.below h).rd
      rw [shP_len] at k
      exact convert_rd (k.front (K := 28) (by rw [shP_len]; decide))
  have XT : Hid (∀ W, Below W10.heap.size W10 W → Calls Tryd.prog 13 #[.iface 87 (.pointer (some ⟨b9, 0, none⟩))] W fun e w' => e = .returned (.string ⟨#[105, 99, 109, 112, 58, 32, 105, 112, 118, 52, 58, 32, 111, 99, 116, 101, 116, 115, 58, 32, 101, 114, 114, 111, 114, 32, 50]⟩) ∧ Below W.heap.size W w') := fun W h => told_ip (m := 2) (by omega) (by decide) (HC10.out.below h) ⟨#[105, 99, 109, 112, 58, 32, 105, 112, 118, 52, 58, 32, 111, 99, 116, 101, 116, 115, 58, 32, 101, 114, 114, 111, 114, 32, 50]⟩ (by decide)
  clear hT HM10 HP10 HZ10 HR10 HY10 HC10
  go_region_held_law (fun W => W.cell? ⟨g7, 3, none⟩ = some (.slice (some ⟨b6, 0, none⟩) 28 k6) ∧ W.cell? ⟨g3, 0, none⟩ = some (.int .u8 8) ∧ W.cell? ⟨g3, 2, none⟩ = some (.int .u32 1) ∧ (convert 23 9 (.slice (some ⟨b, 0, none⟩) 8 8)).run Tryd.prog W = .ok (.string ⟨#[8, 0, 247, 254, 0, 0, 0, 1]⟩) W ∧ (convert 23 9 (.slice (some ⟨b6, 0, none⟩) 28 k6)).run Tryd.prog W = .ok (.string T) W ∧ (convert 23 9 (.slice (some ⟨b5, 0, none⟩) 28 40)).run Tryd.prog W = .ok (.string T) W)
    (first | assumption | exact KS.out _ (below_drew W10) | exact KS.out _ H1.out)
    (first | (go_at_call 13; (with_reducible refine (XT.out _ (below_drew W10)).mono ?_); rintro e w11 ⟨rfl, hl11⟩; (have H1 := Lib.hid ((below_drew W10).trans hl11)); clear hl11))
  all_goals (go_wp2_with fail)
  all_goals go_ret
  all_goals exact ⟨rfl, by rw [HW.out]; exact ibelow_on HB10.out HW.out H1.out⟩
end Go.Proofs.YtlhanaglhkmcfaaDoor
