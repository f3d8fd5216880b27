/-
  What is proved: Ipv4Unlike of the laws of layer 5 by contract.
  Conditions: errors.errorType holds the handle of the type error; the packets' numbers fit their types; the bytes' capacities are ints.
-/
import Derived.Test.YteglhfhkombkhaaDoorVBox
namespace Go.Proofs.YteglhfhkombkhaaDoor
open Go.RowKit

set_option maxRecDepth 100000 in
set_option maxHeartbeats 4000000 in
theorem ipv4Unlike_any (p0 : Ip) (A0 : Option Addr) (c0 : Nat) (p1 : Ip) (A1 : Option Addr) (c1 : Nat) (w : World) (hg : Hdl w) (hf0 : p0.Fit) (hr0 : Rd w (.slice A0 p0.b.length c0) p0.b) (hc0 : c0 ≤ 9223372036854775807)
    (hf1 : p1.Fit) (hr1 : Rd w (.slice A1 p1.b.length c1) p1.b) (hc1 : c1 ≤ 9223372036854775807) :
    Calls Tryd.prog 6 #[p0.val (.slice A0 p0.b.length c0), p1.val (.slice A1 p1.b.length c1)] w fun e w' => e = .returned (.bool true) ∧ Below w.heap.size w w' := by
  have b2 := below_al (below_al (Below.refl w.heap.size w) (p0.obj (.slice A0 p0.b.length c0))) (p1.obj (.slice A1 p1.b.length c1))
  have HS := Lib.hid (vShown_any _ (hg.below b2))
  have HX : Hid (IpAt ((w.alloc (p0.obj (.slice A0 p0.b.length c0))).alloc (p1.obj (.slice A1 p1.b.length c1))) w.heap.size p0 (.slice A0 p0.b.length c0)) := (IpAt.new w p0 _).below (below_al (Below.refl _ _) _)
  have HY : Hid (IpAt ((w.alloc (p0.obj (.slice A0 p0.b.length c0))).alloc (p1.obj (.slice A1 p1.b.length c1))) (w.heap.size + 1) p1 (.slice A1 p1.b.length c1)) := by
    have h := IpAt.new (w.alloc (p0.obj (.slice A0 p0.b.length c0))) p1 (.slice A1 p1.b.length c1)
    rwa [World.size_alloc] at h
  have HB := Lib.hid b2
  have HF0 := Lib.hid hf0
  have HF1 := Lib.hid hf1
  have HR0 := Lib.hid hr0
  have HR1 := Lib.hid hr1
  have HC0 := Lib.hid hc0
  have HC1 := Lib.hid hc1
  clear hg b2 hf0 hf1 hr0 hr1 hc0 hc1
  rw [Ip.val_lit, Ip.val_lit]
  unfold Ip.obj at HS
  go_enter Tryd.func6, Tryd.ntmps6
  go_wp2_with fail
  refine HS.out.mono ?_
  rintro e w1 ⟨rfl, hl⟩
  have HX1 := Lib.hid (HX.out.below hl)
  have HY1 := Lib.hid (HY.out.below hl)
  have HB1 := Lib.hid (below_to HB.out hl HB.out.size)
  clear HS hl HX HY HB
  obtain ⟨d0, d1, d2, d3, d4, d5, d6, d7, d8, d9⟩ := HX1.out.cells
  go_wp2_with fail
  refine (few_lit p0 A0 c0 w1 HF0.out (HR0.out.below HB1.out) HC0.out).mono ?_
  rintro e w2 ⟨p, g0, k0, hq, rfl, hrq, hgg, hl2⟩
  have HP := Lib.hid hq
  have HX2 := Lib.hid (HX1.out.below hl2)
  have HY2 := Lib.hid (HY1.out.below hl2)
  have HB2 := Lib.hid (below_to HB1.out hl2 HB1.out.size)
  have HRP2 := Lib.hid hrq
  have HN0 : Hid (w.heap.size + 1 < g0) := Nat.lt_of_lt_of_le HY1.out.lt hgg
  clear hq hrq hgg hl2 d0 d1 d2 d3 d4 d5 d6 d7 d8 d9 HX1 HY1 HB1 HF0 HR0 HC0
  go_upto_region 3 with (refine wpList_store_row rfl 27 (.tmp 2) (.tmp 12) rfl w.heap.size #[.int .u8 p.tos, .int .u16 p.id, .bool p.df, .bool p.mf, .int .i64 p.off, .int .u8 p.ttl, .int .u8 p.proto, .int .u32 p.src, .int .u32 p.dst, .slice (some ⟨g0, 0, none⟩) p.b.length k0] rfl rfl 27 _ HX2.out ipSize rfl (ipLit_one p _ _ _) ?_)
  have HX3 := Lib.hid (HX2.out.store p (.slice (some ⟨g0, 0, none⟩) p.b.length k0))
  have HY3 := Lib.hid (HY2.out.beside (g := w.heap.size) (by omega) #[.int .u8 p.tos, .int .u16 p.id, .bool p.df, .bool p.mf, .int .i64 p.off, .int .u8 p.ttl, .int .u8 p.proto, .int .u32 p.src, .int .u32 p.dst, .slice (some ⟨g0, 0, none⟩) p.b.length k0])
  have HRP3 := Lib.hid (rd_row HRP2.out (g := w.heap.size) (by have := HN0.out; omega) #[.int .u8 p.tos, .int .u16 p.id, .bool p.df, .bool p.mf, .int .i64 p.off, .int .u8 p.ttl, .int .u8 p.proto, .int .u32 p.src, .int .u32 p.dst, .slice (some ⟨g0, 0, none⟩) p.b.length k0])
  have HB3 := Lib.hid (below_row HB2.out (g := w.heap.size) (Nat.le_refl _) #[.int .u8 p.tos, .int .u16 p.id, .bool p.df, .bool p.mf, .int .i64 p.off, .int .u8 p.ttl, .int .u8 p.proto, .int .u32 p.src, .int .u32 p.dst, .slice (some ⟨g0, 0, none⟩) p.b.length k0])
  clear HX2 HY2 HRP2 HB2
  generalize w2.setRow w.heap.size #[.int .u8 p.tos, .int .u16 p.id, .bool p.df, .bool p.mf, .int .i64 p.off, .int .u8 p.ttl, .int .u8 p.proto, .int .u32 p.src, .int .u32 p.dst, .slice (some ⟨g0, 0, none⟩) p.b.length k0] = W3 at *
  obtain ⟨d0, d1, d2, d3, d4, d5, d6, d7, d8, d9⟩ := HY3.out.cells
  go_wp2_with fail
  refine (few_lit p1 A1 c1 W3 HF1.out (HR1.out.below HB3.out) HC1.out).mono ?_
  rintro e w4 ⟨q, g1, k1, hq, rfl, hrq, hgg, hl4⟩
  have HQ := Lib.hid hq
  have HX4 := Lib.hid (HX3.out.below hl4)
  have HY4 := Lib.hid (HY3.out.below hl4)
  have HB4 := Lib.hid (below_to HB3.out hl4 HB3.out.size)
  have HRP4 := Lib.hid (HRP3.out.below hl4)
  have HRQ4 := Lib.hid hrq
  have HN1 : Hid (w.heap.size + 1 < g1) := Nat.lt_of_lt_of_le HY3.out.lt hgg
  clear hq hrq hgg hl4 d0 d1 d2 d3 d4 d5 d6 d7 d8 d9 HX3 HY3 HB3 HRP3 HF1 HR1 HC1
  go_upto_region 4 with (refine wpList_store_row rfl 27 (.tmp 3) (.tmp 14) rfl (w.heap.size + 1) #[.int .u8 q.tos, .int .u16 q.id, .bool q.df, .bool q.mf, .int .i64 q.off, .int .u8 q.ttl, .int .u8 q.proto, .int .u32 q.src, .int .u32 q.dst, .slice (some ⟨g1, 0, none⟩) q.b.length k1] rfl rfl 27 _ HY4.out ipSize rfl (ipLit_one q _ _ _) ?_)
  have HX5 := Lib.hid (HX4.out.beside (g := w.heap.size + 1) (by omega) #[.int .u8 q.tos, .int .u16 q.id, .bool q.df, .bool q.mf, .int .i64 q.off, .int .u8 q.ttl, .int .u8 q.proto, .int .u32 q.src, .int .u32 q.dst, .slice (some ⟨g1, 0, none⟩) q.b.length k1])
  have HY5 := Lib.hid (HY4.out.store q (.slice (some ⟨g1, 0, none⟩) q.b.length k1))
  have HRP5 := Lib.hid (rd_row HRP4.out (g := w.heap.size + 1) (by have := HN0.out; omega) #[.int .u8 q.tos, .int .u16 q.id, .bool q.df, .bool q.mf, .int .i64 q.off, .int .u8 q.ttl, .int .u8 q.proto, .int .u32 q.src, .int .u32 q.dst, .slice (some ⟨g1, 0, none⟩) q.b.length k1])
  have HRQ5 := Lib.hid (rd_row HRQ4.out (g := w.heap.size + 1) (by have := HN1.out; omega) #[.int .u8 q.tos, .int .u16 q.id, .bool q.df, .bool q.mf, .int .i64 q.off, .int .u8 q.ttl, .int .u8 q.proto, .int .u32 q.src, .int .u32 q.dst, .slice (some ⟨g1, 0, none⟩) q.b.length k1])
  have HB5 := Lib.hid (below_row HB4.out (g := w.heap.size + 1) (by omega) #[.int .u8 q.tos, .int .u16 q.id, .bool q.df, .bool q.mf, .int .i64 q.off, .int .u8 q.ttl, .int .u8 q.proto, .int .u32 q.src, .int .u32 q.dst, .slice (some ⟨g1, 0, none⟩) q.b.length k1])
  clear HX4 HY4 HRP4 HRQ4 HB4
  generalize w4.setRow (w.heap.size + 1) #[.int .u8 q.tos, .int .u16 q.id, .bool q.df, .bool q.mf, .int .i64 q.off, .int .u8 q.ttl, .int .u8 q.proto, .int .u32 q.src, .int .u32 q.dst, .slice (some ⟨g1, 0, none⟩) q.b.length k1] = W5 at *
  generalize hn : w.heap.size = n at *
  have HW := Lib.hid hn
  clear hn
  obtain ⟨d0, d1, d2, d3, d4, d5, d6, d7, d8, d9⟩ := HX5.out.cells
  by_cases hp : p.bad = 0
  · have X := Lib.hid (bytes_ok p HP.out hp (some ⟨g0, 0, none⟩) k0 W5 HRP5.out)
    have HBP := Lib.hid hp
    clear hp
    go_wp2_with fail
    refine X.out.mono ?_
    rintro e w6 ⟨b, rfl, _, hy, hl6⟩
    have HX6 := Lib.hid (HX5.out.below hl6)
    have HY6 := Lib.hid (HY5.out.below hl6)
    have HB6 := Lib.hid (ibelow_on HB5.out HW.out hl6)
    have HRP6 := Lib.hid (HRP5.out.below hl6)
    have HRQ6 := Lib.hid (HRQ5.out.below hl6)
    have HZ6 := Lib.hid hy
    clear hy hl6 d0 d1 d2 d3 d4 d5 d6 d7 d8 d9 HX5 HY5 HB5 HRP5 HRQ5 X
    obtain ⟨d0, d1, d2, d3, d4, d5, d6, d7, d8, d9⟩ := HY6.out.cells
    by_cases hq : q.bad = 0
    · have X := Lib.hid (bytes_ok q HQ.out hq (some ⟨g1, 0, none⟩) k1 w6 HRQ6.out)
      have HTX := Lib.hid (txt_same HP.out.inn HQ.out.inn HBP.out hq)
      clear hq
      go_wp2_with fail
      refine X.out.mono ?_
      rintro e w7 ⟨b', rfl, _, hy', hl7⟩
      have HX7 := Lib.hid (HX6.out.below hl7)
      have HY7 := Lib.hid (HY6.out.below hl7)
      have HB7 := Lib.hid (ibelow_on HB6.out HW.out hl7)
      have HRP7 := Lib.hid (HRP6.out.below hl7)
      have HRQ7 := Lib.hid (HRQ6.out.below hl7)
      have HZ7 := Lib.hid (HZ6.out.below hl7)
      have HV7 := Lib.hid hy'
      clear hy' hl7 d0 d1 d2 d3 d4 d5 d6 d7 d8 d9 HX6 HY6 HB6 HRP6 HRQ6 HZ6 X
      go_upto_region 8 with fail
      obtain ⟨M0, hM0⟩ : ∃ M, p.bs.length = M := ⟨_, rfl⟩
      obtain ⟨M1, hM1⟩ : ∃ M, q.bs.length = M := ⟨_, rfl⟩
      have CP : Hid (∀ W, Below w7.heap.size w7 W → (convert 22 9 (.slice (some ⟨b, 0, none⟩) M0 M0)).run Tryd.prog W = .ok (.string (txt p.bs)) W) := fun W h => by
        rw [← hM0]
        exact convert_rd (HZ7.out.below h).rd
      have CQ : Hid (∀ W, Below w7.heap.size w7 W → (convert 22 9 (.slice (some ⟨b', 0, none⟩) M1 M1)).run Tryd.prog W = .ok (.string (txt q.bs)) W) := fun W h => by
        rw [← hM1]
        exact convert_rd (HV7.out.below h).rd
      rw [hM0, hM1]
      have KS : Hid (∀ W, Below w7.heap.size w7 W → W.cell? ⟨n, 0, none⟩ = some (.int .u8 p.tos) ∧ W.cell? ⟨n, 1, none⟩ = some (.int .u16 p.id) ∧ W.cell? ⟨n, 2, none⟩ = some (.bool p.df) ∧ W.cell? ⟨n, 3, none⟩ = some (.bool p.mf) ∧ W.cell? ⟨n, 4, none⟩ = some (.int .i64 p.off) ∧ W.cell? ⟨n, 5, none⟩ = some (.int .u8 p.ttl) ∧ W.cell? ⟨n, 6, none⟩ = some (.int .u8 p.proto) ∧ W.cell? ⟨n, 7, none⟩ = some (.int .u32 p.src) ∧ W.cell? ⟨n, 8, none⟩ = some (.int .u32 p.dst) ∧ W.cell? ⟨n, 9, none⟩ = some (.slice (some ⟨g0, 0, none⟩) p.b.length k0) ∧ W.cell? ⟨n + 1, 0, none⟩ = some (.int .u8 q.tos) ∧ W.cell? ⟨n + 1, 1, none⟩ = some (.int .u16 q.id) ∧ W.cell? ⟨n + 1, 2, none⟩ = some (.bool q.df) ∧ W.cell? ⟨n + 1, 3, none⟩ = some (.bool q.mf) ∧ W.cell? ⟨n + 1, 4, none⟩ = some (.int .i64 q.off) ∧ W.cell? ⟨n + 1, 5, none⟩ = some (.int .u8 q.ttl) ∧ W.cell? ⟨n + 1, 6, none⟩ = some (.int .u8 q.proto) ∧ W.cell? ⟨n + 1, 7, none⟩ = some (.int .u32 q.src) ∧ W.cell? ⟨n + 1, 8, none⟩ = some (.int .u32 q.dst) ∧ W.cell? ⟨n + 1, 9, none⟩ = some (.slice (some ⟨g1, 0, none⟩) q.b.length k1)) := fun W h => by
        obtain ⟨e0, e1, e2, e3, e4, e5, e6, e7, e8, e9⟩ := (HX7.out.below h).cells
        obtain ⟨f0, f1, f2, f3, f4, f5, f6, f7, f8, f9⟩ := (HY7.out.below h).cells
        exact ⟨e0, e1, e2, e3, e4, e5, e6, e7, e8, e9, f0, f1, f2, f3, f4, f5, f6, f7, f8, f9⟩
      have XS := Lib.hid (same_lit p q HP.out.inn HQ.out.inn (some ⟨g0, 0, none⟩) (some ⟨g1, 0, none⟩) k0 k1 w7.drew (HRP7.out.below (below_drew w7)) (HRQ7.out.below (below_drew w7)))
      obtain ⟨t, ht⟩ : ∃ t, ipB p q = t := ⟨_, rfl⟩
      rw [ht] at HTX XS
      have HT := HTX.out
      have v1 := CP.out w7.drew (below_drew w7)
      have v2 := CQ.out w7.drew (below_drew w7)
      generalize txt p.bs = tp at *
      generalize txt q.bs = tq at *
      have HB8 : Hid (Below n w w7.drew) := ibelow_on HB7.out HW.out (below_drew w7)
      clear ht HX7 HY7 HZ7 HV7 HRP7 HRQ7 hM0 hM1 HTX HP HQ HBP HN0 HN1
      cases t
      all_goals
        go_region_held_law (fun W => W.cell? ⟨n, 0, none⟩ = some (.int .u8 p.tos) ∧ W.cell? ⟨n, 1, none⟩ = some (.int .u16 p.id) ∧ W.cell? ⟨n, 2, none⟩ = some (.bool p.df) ∧ W.cell? ⟨n, 3, none⟩ = some (.bool p.mf) ∧ W.cell? ⟨n, 4, none⟩ = some (.int .i64 p.off) ∧ W.cell? ⟨n, 5, none⟩ = some (.int .u8 p.ttl) ∧ W.cell? ⟨n, 6, none⟩ = some (.int .u8 p.proto) ∧ W.cell? ⟨n, 7, none⟩ = some (.int .u32 p.src) ∧ W.cell? ⟨n, 8, none⟩ = some (.int .u32 p.dst) ∧ W.cell? ⟨n, 9, none⟩ = some (.slice (some ⟨g0, 0, none⟩) p.b.length k0) ∧ W.cell? ⟨n + 1, 0, none⟩ = some (.int .u8 q.tos) ∧ W.cell? ⟨n + 1, 1, none⟩ = some (.int .u16 q.id) ∧ W.cell? ⟨n + 1, 2, none⟩ = some (.bool q.df) ∧ W.cell? ⟨n + 1, 3, none⟩ = some (.bool q.mf) ∧ W.cell? ⟨n + 1, 4, none⟩ = some (.int .i64 q.off) ∧ W.cell? ⟨n + 1, 5, none⟩ = some (.int .u8 q.ttl) ∧ W.cell? ⟨n + 1, 6, none⟩ = some (.int .u8 q.proto) ∧ W.cell? ⟨n + 1, 7, none⟩ = some (.int .u32 q.src) ∧ W.cell? ⟨n + 1, 8, none⟩ = some (.int .u32 q.dst) ∧ W.cell? ⟨n + 1, 9, none⟩ = some (.slice (some ⟨g1, 0, none⟩) q.b.length k1))
          (first | assumption | exact KS.out _ (below_drew w7) | exact KS.out _ HL9.out)
          (first
            | (go_at_call 19; (with_reducible refine XS.out.mono ?_); rintro e w9 ⟨rfl, hl9⟩; (have HL9 := Lib.hid ((below_drew w7).trans hl9)); (have HK9 := Lib.hid (ibelow_on HB8.out HW.out hl9)); (have v3 := CP.out w9 HL9.out); (have v4 := CQ.out w9 HL9.out); clear hl9))
      all_goals (go_wp2_with fail)
      all_goals go_ret
      all_goals exact ⟨rfl, by rw [HW.out]; exact HK9.out⟩
    · have X := Lib.hid (bytes_bad q HQ.out hq (some ⟨g1, 0, none⟩) k1 w6)
      clear hq
      go_wp2_with fail
      refine X.out.mono ?_
      rintro e w7 ⟨b', rfl, _, hl7⟩
      have HB7 := Lib.hid (ibelow_on HB6.out HW.out hl7)
      clear hl7 HB6 X d0 d1 d2 d3 d4 d5 d6 d7 d8 d9
      go_wp2_with fail
      go_ret
      exact ⟨rfl, by rw [HW.out]; exact HB7.out⟩
  · have X := Lib.hid (bytes_bad p HP.out hp (some ⟨g0, 0, none⟩) k0 W5)
    clear hp
    go_wp2_with fail
    refine X.out.mono ?_
    rintro e w6 ⟨b, rfl, _, hl6⟩
    have HY6 := Lib.hid (HY5.out.below hl6)
    have HB6 := Lib.hid (ibelow_on HB5.out HW.out hl6)
    have HRQ6 := Lib.hid (HRQ5.out.below hl6)
    clear hl6 d0 d1 d2 d3 d4 d5 d6 d7 d8 d9 HX5 HY5 HB5 HRP5 HRQ5 X
    obtain ⟨d0, d1, d2, d3, d4, d5, d6, d7, d8, d9⟩ := HY6.out.cells
    by_cases hq : q.bad = 0
    · have X := Lib.hid (bytes_ok q HQ.out hq (some ⟨g1, 0, none⟩) k1 w6 HRQ6.out)
      clear hq
      go_wp2_with fail
      refine X.out.mono ?_
      rintro e w7 ⟨b', rfl, _, _, hl7⟩
      have HB7 := Lib.hid (ibelow_on HB6.out HW.out hl7)
      clear hl7 HB6 X d0 d1 d2 d3 d4 d5 d6 d7 d8 d9
      go_wp2_with fail
      go_ret
      exact ⟨rfl, by rw [HW.out]; exact HB7.out⟩
    · have X := Lib.hid (bytes_bad q HQ.out hq (some ⟨g1, 0, none⟩) k1 w6)
      clear hq
      go_wp2_with fail
      refine X.out.mono ?_
      rintro e w7 ⟨b', rfl, _, hl7⟩
      have HB7 := Lib.hid (ibelow_on HB6.out HW.out hl7)
      clear hl7 HB6 X d0 d1 d2 d3 d4 d5 d6 d7 d8 d9
      go_wp2_with fail
      go_ret
      exact ⟨rfl, by rw [HW.out]; exact HB7.out⟩
end Go.Proofs.YteglhfhkombkhaaDoor
