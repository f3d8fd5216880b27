/-
  What is proved: Ipv4Limits of the laws of layer 5 by contract.
  Conditions: errors.errorType holds the handle of the type error.
-/
import Derived.Test.YteglhfhkombkhaaDoorVShown
namespace Go.Proofs.YteglhfhkombkhaaDoor
open Go.RowKit

theorem max_run {P : Program} (ats : Array TypeId) (ty : TypeId) (a b k : Int) (h : k = max a b) (W : World) : (Builtin.max_ ats ty #[.int .i64 a, .int .i64 b]).run P W = .ok (.int .i64 k) W := by
  subst h
  by_cases hba : b < a
  · simp [Builtin.max_, Builtin.max2, hba]
    omega
  · simp [Builtin.max_, Builtin.max2, hba]
    omega
/-- The packet of the law. -/
def limP (o L : Nat) : Ip := ⟨0, 0, false, false, o, 0, 0, 0, 0, List.replicate L 0⟩
theorem limP_len (o L : Nat) : (limP o L).b.length = L := List.length_replicate
theorem limP_in (o L : Nat) (ho : o < 65536) (hL : L ≤ 70000) : (limP o L).In :=
  ⟨by show 0 < 256; decide, by show 0 < 65536; decide, by show _ ≤ (o : Int) ∧ (o : Int) ≤ _; omega, by show 0 < 256; decide, by show 0 < 256; decide, by show 0 < 4294967296; decide, by show 0 < 4294967296; decide, by rw [limP_len]; omega⟩
theorem limP_bad (o L : Nat) : (limP o L).bad = if o % 8 ≠ 0 then 1 else if 65515 < o + L then 7 else 0 := by
  have h1 : (limP o L).arg = decide (o % 8 ≠ 0) := by
    unfold Ip.arg limP
    have h0 : ¬ (o : Int) < 0 := by omega
    have h8 : ((o : Int) % 8 ≠ 0) ↔ (o % 8 ≠ 0) := by omega
    simp only [h0, decide_false, Bool.false_or, Bool.false_and, Bool.or_false, h8]
  unfold Ip.bad
  rw [h1, limP_len]
  by_cases h : o % 8 ≠ 0
  · simp [h]
  · have e : (65515 - (L : Int) < (limP o L).off) ↔ 65515 < o + L := by show (65515 - (L : Int) < (o : Int)) ↔ _; omega
    simp only [h, decide_false, if_false, e, Bool.false_eq_true, if_false]
theorem lim_right (o L : Nat) (hL : L ≤ 70000) (g : Nat) (W : World) :
    Calls Tryd.prog 18 #[.agg #[.int .u8 0, .int .u16 0, .bool false, .bool false, .int .i64 o, .int .u8 0, .int .u8 0, .int .u32 0, .int .u32 0, .slice (some ⟨g, 0, none⟩) L L]] W (RightTold (limP o L) W) := by
  have h := right_any (limP o L) (some ⟨g, 0, none⟩) L W (by rw [limP_len]; omega)
  rw [limP_len] at h
  exact h
theorem lim_bad (o L : Nat) (hL : L ≤ 70000) (hn : (limP o L).bad ≠ 0) (g : Nat) (W : World) :
    Calls Tryd.prog 16 #[.agg #[.int .u8 0, .int .u16 0, .bool false, .bool false, .int .i64 o, .int .u8 0, .int .u8 0, .int .u32 0, .int .u32 0, .slice (some ⟨g, 0, none⟩) L L]] W fun e w' => ∃ b, e = .returned (.tuple #[.slice none 0 0, .iface 81 (.pointer (some ⟨b, 0, none⟩))]) ∧ Chain w' (limP o L).bad [ipWord] (.iface 81 (.pointer (some ⟨b, 0, none⟩))) ∧ Below W.heap.size W w' := by
  have h := vBytes_bad (limP o L) hn (some ⟨g, 0, none⟩) L W (by rw [limP_len]; omega)
  rw [limP_len] at h
  exact h
theorem lim_ok (o L : Nat) (ho : o < 65536) (hL : L ≤ 70000) (hn : (limP o L).bad = 0) (g : Nat) (W : World) (hr : Rd W (.slice (some ⟨g, 0, none⟩) L L) (List.replicate L 0)) :
    Calls Tryd.prog 16 #[.agg #[.int .u8 0, .int .u16 0, .bool false, .bool false, .int .i64 o, .int .u8 0, .int .u8 0, .int .u32 0, .int .u32 0, .slice (some ⟨g, 0, none⟩) L L]] W fun e w' => ∃ b, e = .returned (.tuple #[.slice (some ⟨b, 0, none⟩) (20 + L) (20 + L), .nilIface]) ∧ Below W.heap.size W w' := by
  have h := vBytes_ok (limP o L) (limP_in o L ho hL) hn (some ⟨g, 0, none⟩) L W (by rw [limP_len]; exact hr)
  rw [limP_len] at h
  refine h.mono ?_
  rintro e w' ⟨b, he, _, _, hb⟩
  exact ⟨b, he, hb⟩
theorem lim_cells {W : World} {G o L : Nat} {bv : Value} (h : IpAt W G (limP o L) bv) :
    W.cell? ⟨G, 0, none⟩ = some (.int .u8 0) ∧ W.cell? ⟨G, 1, none⟩ = some (.int .u16 0) ∧ W.cell? ⟨G, 2, none⟩ = some (.bool false) ∧ W.cell? ⟨G, 3, none⟩ = some (.bool false) ∧ W.cell? ⟨G, 4, none⟩ = some (.int .i64 (o : Int)) ∧
    W.cell? ⟨G, 5, none⟩ = some (.int .u8 0) ∧ W.cell? ⟨G, 6, none⟩ = some (.int .u8 0) ∧ W.cell? ⟨G, 7, none⟩ = some (.int .u32 0) ∧ W.cell? ⟨G, 8, none⟩ = some (.int .u32 0) ∧ W.cell? ⟨G, 9, none⟩ = some bv := h.cells
set_option maxRecDepth 100000 in
set_option maxHeartbeats 4000000 in
theorem ipv4Limits_any (n0 n1 : Int) (w : World) (hg : Hdl w) (_ : -9223372036854775808 ≤ n0) (_ : n0 ≤ 9223372036854775807) (_ : -9223372036854775808 ≤ n1) (_ : n1 ≤ 9223372036854775807) :
    Calls Tryd.prog 9 #[.int .i64 n0, .int .i64 n1] w fun e w' => e = .returned (.bool true) ∧ Below w.heap.size w w' := by
  have X0 := Lib.hid (vShown_any w hg)
  have HG := Lib.hid hg
  have a0 := and_low_i64 n0
  have a1 := and_low_i64 n1
  obtain ⟨u, hu⟩ : ∃ u : Nat, n0 % 65536 = (u : Int) := ⟨(n0 % 65536).toNat, by omega⟩
  obtain ⟨v, hv⟩ : ∃ v : Nat, n1 % 65536 = (v : Int) := ⟨(n1 % 65536).toNat, by omega⟩
  rw [hu] at a0
  rw [hv] at a1
  obtain ⟨o, ho⟩ : ∃ o : Nat, u % 65515 = o := ⟨_, rfl⟩
  obtain ⟨m, hm⟩ : ∃ m : Nat, v % 41 = m := ⟨_, rfl⟩
  have o1 : (u : Int).tmod 65515 = (o : Int) := by rw [Int.tmod_eq_emod_of_nonneg (by omega)]; omega
  have o2 : (u : Int) % 65515 = (o : Int) := by omega
  have m1 : (v : Int).tmod 41 = (m : Int) := by rw [Int.tmod_eq_emod_of_nonneg (by omega)]; omega
  have m2 : (v : Int) % 41 = (m : Int) := by omega
  have ob : (o : Int) < 65515 := by omega
  have mb : (m : Int) < 41 := by omega
  clear hg hu hv ho hm
  go_enter Tryd.func9, Tryd.ntmps9
  go_wp2_with fail
  refine X0.out.mono ?_
  rintro e w1 ⟨rfl, hl1⟩
  clear X0
  have HB1 := Lib.hid hl1
  clear hl1
  go_upto_region 4 with fail
  clear a0 a1 o1 o2 m1 m2
  obtain ⟨L, hL⟩ : ∃ L : Nat, (L : Int) = max (65515 - (o : Int) + m - 20) 0 := ⟨(max (65515 - (o : Int) + m - 20) 0).toNat, by omega⟩
  have hmax : ∀ ats ty W, (Builtin.max_ ats ty #[.int .i64 (65515 - (o : Int) + (m : Int) - 20), .int .i64 0]).run Tryd.prog W = .ok (.int .i64 L) W := fun ats ty W => max_run ats ty _ _ _ hL W
  have hmk := make_bytes L (by omega) w1
  have HLB : Hid (L ≤ 70000) := by show _ ≤ _; omega
  clear hL
  have nW := below_al (below_al (Below.refl w1.heap.size w1) (bytesObj (List.replicate L 0))) ((limP o L).obj (.slice (some ⟨w1.heap.size, 0, none⟩) L L))
  have HB2 := Lib.hid (below_to HB1.out nW HB1.out.size)
  have HX2 : Hid (IpAt ((w1.alloc (bytesObj (List.replicate L 0))).alloc ((limP o L).obj (.slice (some ⟨w1.heap.size, 0, none⟩) L L))) (w1.heap.size + 1) (limP o L) (.slice (some ⟨w1.heap.size, 0, none⟩) L L)) := by
    have h := IpAt.new (w1.alloc (bytesObj (List.replicate L 0))) (limP o L) (.slice (some ⟨w1.heap.size, 0, none⟩) L L)
    rw [World.size_alloc] at h
    exact h
  have HR2 : Hid (Rd ((w1.alloc (bytesObj (List.replicate L 0))).alloc ((limP o L).obj (.slice (some ⟨w1.heap.size, 0, none⟩) L L))) (.slice (some ⟨w1.heap.size, 0, none⟩) L L) (List.replicate L 0)) := by
    have h := Rd.of_obj (c := L) (heap_alloc_new w1 (bytesObj (List.replicate L 0))) (by simp)
    rw [List.length_replicate] at h
    exact h.below (below_al (Below.refl _ _) _)
  clear nW HB1
  generalize hW2 : (w1.alloc (bytesObj (List.replicate L 0))).alloc ((limP o L).obj (.slice (some ⟨w1.heap.size, 0, none⟩) L L)) = W2 at HB2 HX2 HR2
  have hW3 : (w1.alloc (bytesObj (List.replicate L 0))).alloc (.cells #[.int .u8 0, .int .u16 0, .bool false, .bool false, .int .i64 (o : Int), .int .u8 0, .int .u8 0, .int .u32 0, .int .u32 0, .slice (some ⟨w1.heap.size, 0, none⟩) L L] 27) = W2 := hW2
  clear hW2
  go_upto_region 5 with fail
  (try rw [hW3])
  clear hW3 hmax hmk
  obtain ⟨c0, c1, c2, c3, c4, c5, c6, c7, c8, c9⟩ := lim_cells HX2.out
  have HO : Hid (o < 65515) := by show _ < _; omega
  have lb : (L : Int) ≤ 70000 := by have := HLB.out; omega
  clear mb
  obtain ⟨r, r2⟩ : ∃ r : Int, (o : Int) % 8 = r := ⟨_, rfl⟩
  have r1 : (o : Int).tmod 8 = r := by rw [tmod8 _ (by omega)]; exact r2
  obtain ⟨s, hs⟩ : ∃ s : Int, 20 + (o : Int) + (L : Int) = s := ⟨_, rfl⟩
  have sb1 : 0 ≤ s := by omega
  have sb2 : s ≤ 140000 := by omega
  by_cases h0 : r = 0
  · have z8 : ¬ o % 8 ≠ 0 := by omega
    subst h0
    by_cases hb : 65535 < s
    · have y : 65515 < o + L := by omega
      have HN : Hid ((limP o L).bad = 7) := by
        show (limP o L).bad = _
        rw [limP_bad]
        simp only [z8, if_false, y, if_true]
      clear z8 y
      go_wp2_with fail
      refine (lim_right o L HLB.out w1.heap.size W2).mono ?_
      rintro e w3 ht
      obtain ⟨b3, rfl, hc3, hl3⟩ := ht.bad (by rw [HN.out]; decide)
      rw [HN.out] at hc3
      have HX3 := Lib.hid (HX2.out.below hl3)
      have HB3 := Lib.hid (below_to HB2.out hl3 HB2.out.size)
      have HC3 := Lib.hid hc3
      clear ht hc3 hl3 c0 c1 c2 c3 c4 c5 c6 c7 c8 c9 HX2
      obtain ⟨c0, c1, c2, c3, c4, c5, c6, c7, c8, c9⟩ := lim_cells HX3.out
      go_wp2_with fail
      refine (lim_bad o L HLB.out (by rw [HN.out]; decide) w1.heap.size w3).mono ?_
      rintro e w4 ⟨b4, rfl, hc4, hl4⟩
      rw [HN.out] at hc4
      have HC4 := Lib.hid (HC3.out.below hl4)
      have HB4 := Lib.hid (below_to HB3.out hl4 HB3.out.size)
      have HD4 := Lib.hid hc4
      clear hc4 hl4 HC3 HB3 HX3 c0 c1 c2 c3 c4 c5 c6 c7 c8 c9
      go_wp2_with fail
      refine (code_any 7 _ _ _ (HG.out.below HB4.out) HC4.out).mono ?_
      rintro e w5 ⟨rfl, hl5⟩
      have HB5 := Lib.hid (below_to HB4.out hl5 HB4.out.size)
      have HD5 := Lib.hid (HD4.out.below hl5)
      clear hl5
      go_wp2_with fail
      refine (code_any 7 _ _ _ (HG.out.below HB5.out) HD5.out).mono ?_
      rintro e w6 ⟨rfl, hl6⟩
      have HB6 := Lib.hid (below_to HB5.out hl6 HB5.out.size)
      clear hl6
      go_wp2_with fail
      go_ret
      exact ⟨rfl, HB6.out⟩
    · have y : ¬ 65515 < o + L := by omega
      have hd : decide (65535 < s) = false := decide_eq_false hb
      have HN : Hid ((limP o L).bad = 0) := by
        show (limP o L).bad = _
        rw [limP_bad]
        simp only [z8, if_false, y]
      clear z8 y
      go_wp2_with fail
      refine (lim_right o L HLB.out w1.heap.size W2).mono ?_
      rintro e w3 ht
      obtain ⟨rfl, hl3⟩ := ht.good HN.out
      have HX3 := Lib.hid (HX2.out.below hl3)
      have HB3 := Lib.hid (below_to HB2.out hl3 HB2.out.size)
      have HR3 := Lib.hid (HR2.out.below hl3)
      clear ht hl3 c0 c1 c2 c3 c4 c5 c6 c7 c8 c9 HX2 HR2
      obtain ⟨c0, c1, c2, c3, c4, c5, c6, c7, c8, c9⟩ := lim_cells HX3.out
      go_wp2_with fail
      refine (lim_ok o L (by have := HO.out; omega) HLB.out HN.out w1.heap.size w3 HR3.out).mono ?_
      rintro e w4 ⟨b4, rfl, hl4⟩
      have HX4 := Lib.hid (HX3.out.below hl4)
      have HB4 := Lib.hid (below_to HB3.out hl4 HB3.out.size)
      clear hl4 HB3 HX3 HR3 c0 c1 c2 c3 c4 c5 c6 c7 c8 c9
      go_wp2_with fail
      refine (code_nil w4).mono ?_
      rintro e w5 ⟨rfl, rfl⟩
      go_wp2_with fail
      refine (code_nil w4).mono ?_
      rintro e w6 ⟨rfl, rfl⟩
      have c9 := (lim_cells HX4.out).2.2.2.2.2.2.2.2.2
      go_wp2_with fail
      go_ret
      exact ⟨rfl, HB4.out⟩
  · have z8 : o % 8 ≠ 0 := by omega
    have hr : decide (r = 0) = false := decide_eq_false h0
    have hr2 : (r == 0) = false := by simpa using h0
    have hr3 : (r != 0) = true := by simpa using h0
    by_cases hb : 65535 < s
    · have HN : Hid ((limP o L).bad = 1) := by
        show (limP o L).bad = _
        rw [limP_bad]
        simp only [z8, ne_eq, not_false_eq_true, if_true]
      clear z8
      go_wp2_with fail
      refine (lim_right o L HLB.out w1.heap.size W2).mono ?_
      rintro e w3 ht
      obtain ⟨b3, rfl, hc3, hl3⟩ := ht.bad (by rw [HN.out]; decide)
      rw [HN.out] at hc3
      have HX3 := Lib.hid (HX2.out.below hl3)
      have HB3 := Lib.hid (below_to HB2.out hl3 HB2.out.size)
      have HC3 := Lib.hid hc3
      clear ht hc3 hl3 c0 c1 c2 c3 c4 c5 c6 c7 c8 c9 HX2
      obtain ⟨c0, c1, c2, c3, c4, c5, c6, c7, c8, c9⟩ := lim_cells HX3.out
      go_wp2_with fail
      refine (lim_bad o L HLB.out (by rw [HN.out]; decide) w1.heap.size w3).mono ?_
      rintro e w4 ⟨b4, rfl, hc4, hl4⟩
      rw [HN.out] at hc4
      have HC4 := Lib.hid (HC3.out.below hl4)
      have HB4 := Lib.hid (below_to HB3.out hl4 HB3.out.size)
      have HD4 := Lib.hid hc4
      clear hc4 hl4 HC3 HB3 HX3 c0 c1 c2 c3 c4 c5 c6 c7 c8 c9
      go_wp2_with fail
      refine (code_any 1 _ _ _ (HG.out.below HB4.out) HC4.out).mono ?_
      rintro e w5 ⟨rfl, hl5⟩
      have HB5 := Lib.hid (below_to HB4.out hl5 HB4.out.size)
      have HD5 := Lib.hid (HD4.out.below hl5)
      clear hl5
      go_wp2_with fail
      refine (code_any 1 _ _ _ (HG.out.below HB5.out) HD5.out).mono ?_
      rintro e w6 ⟨rfl, hl6⟩
      have HB6 := Lib.hid (below_to HB5.out hl6 HB5.out.size)
      clear hl6
      go_wp2_with fail
      go_ret
      exact ⟨rfl, HB6.out⟩
    · have hd : decide (65535 < s) = false := decide_eq_false hb
      have HN : Hid ((limP o L).bad = 1) := by
        show (limP o L).bad = _
        rw [limP_bad]
        simp only [z8, ne_eq, not_false_eq_true, if_true]
      clear z8
      go_wp2_with fail
      refine (lim_right o L HLB.out w1.heap.size W2).mono ?_
      rintro e w3 ht
      obtain ⟨b3, rfl, hc3, hl3⟩ := ht.bad (by rw [HN.out]; decide)
      rw [HN.out] at hc3
      have HX3 := Lib.hid (HX2.out.below hl3)
      have HB3 := Lib.hid (below_to HB2.out hl3 HB2.out.size)
      have HC3 := Lib.hid hc3
      clear ht hc3 hl3 c0 c1 c2 c3 c4 c5 c6 c7 c8 c9 HX2
      obtain ⟨c0, c1, c2, c3, c4, c5, c6, c7, c8, c9⟩ := lim_cells HX3.out
      go_wp2_with fail
      refine (lim_bad o L HLB.out (by rw [HN.out]; decide) w1.heap.size w3).mono ?_
      rintro e w4 ⟨b4, rfl, hc4, hl4⟩
      rw [HN.out] at hc4
      have HC4 := Lib.hid (HC3.out.below hl4)
      have HB4 := Lib.hid (below_to HB3.out hl4 HB3.out.size)
      have HD4 := Lib.hid hc4
      clear hc4 hl4 HC3 HB3 HX3 c0 c1 c2 c3 c4 c5 c6 c7 c8 c9
      go_wp2_with fail
      refine (code_any 1 _ _ _ (HG.out.below HB4.out) HC4.out).mono ?_
      rintro e w5 ⟨rfl, hl5⟩
      have HB5 := Lib.hid (below_to HB4.out hl5 HB4.out.size)
      have HD5 := Lib.hid (HD4.out.below hl5)
      clear hl5
      go_wp2_with fail
      refine (code_any 1 _ _ _ (HG.out.below HB5.out) HD5.out).mono ?_
      rintro e w6 ⟨rfl, hl6⟩
      have HB6 := Lib.hid (below_to HB5.out hl6 HB5.out.size)
      clear hl6
      go_wp2_with fail
      go_ret
      exact ⟨rfl, HB6.out⟩
end Go.Proofs.YteglhfhkombkhaaDoor
