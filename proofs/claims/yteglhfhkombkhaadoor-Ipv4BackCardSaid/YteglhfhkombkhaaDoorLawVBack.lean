/-
  What is proved: Ipv4Back of the laws of layer 5 by contract.
  Conditions: errors.errorType holds the handle of the type error; the packet's numbers fit their types; the bytes' capacities are ints.
-/
import Derived.Test.YteglhfhkombkhaaDoorVBk
import Derived.Test.YteglhfhkombkhaaDoorVAlike
import Derived.Test.YteglhfhkombkhaaDoorVKind
namespace Go.Proofs.YteglhfhkombkhaaDoor
open Go.RowKit

theorem noIp_in : noIp.In := ⟨by decide, by decide, by decide, by decide, by decide, by decide, by decide, by decide⟩
theorem alike_near (A B : Option Addr) (c d : Nat) (u v : List UInt8) (w : World) (ha : Rd w (.slice A u.length c) u) (hb : Rd w (.slice B v.length d) v) (hl : u.length ≤ v.length) (h12 : 12 ≤ u.length) (hv : v.length ≤ 1099511627776) (hn : Near u v) :
    Calls Tryd.prog 20 #[.slice A u.length c, .slice B v.length d] w fun e w' => e = .returned (.bool true) ∧ Below w.heap.size w w' := by
  rcases hn with h | ⟨h1, h2, h3, h4, h5⟩
  · exact alike_eq A B c d u v w ha hb hl h12 hv h
  · exact alike_ff A B c d u v w ha hb hl h12 hv h1 h2 h3 h4 h5
set_option maxRecDepth 100000 in
set_option maxHeartbeats 40000000 in
theorem ipv4Back_any (p : Ip) (A0 : Option Addr) (c0 : Nat) (A1 : Option Addr) (c1 : Nat) (l1 : List UInt8) (A2 : Option Addr) (c2 : Nat) (l2 : List UInt8) (w : World) (hg : Hdl w) (hf : p.Fit) (hr : Rd w (.slice A0 p.b.length c0) p.b) (hc : c0 ≤ 9223372036854775807)
    (hr1 : Rd w (.slice A1 l1.length c1) l1) (hc1 : c1 ≤ 9223372036854775807) (hr2 : Rd w (.slice A2 l2.length c2) l2) (hc2 : c2 ≤ 9223372036854775807) :
    Calls Tryd.prog 4 #[p.val (.slice A0 p.b.length c0), .slice A1 l1.length c1, .slice A2 l2.length c2] w fun e w' => e = .returned (.bool true) ∧ Below w.heap.size w w' := by
  have b1 := below_al (Below.refl w.heap.size w) (p.obj (.slice A0 p.b.length c0))
  have hlc1 := hr1.cap_le
  have hlc2 := hr2.cap_le
  have HS := Lib.hid (vShown_any _ (hg.below b1))
  have HX := Lib.hid (IpAt.new w p (.slice A0 p.b.length c0))
  have HB := Lib.hid b1
  have HF := Lib.hid hf
  have HR := Lib.hid hr
  have HC := Lib.hid hc
  obtain ⟨ms, hms⟩ : ∃ ms, l1.take 50 = ms := ⟨_, rfl⟩
  obtain ⟨ls, hls⟩ : ∃ ls, l2.take 3000 = ls := ⟨_, rfl⟩
  have HR1 : Hid (Rd w (.slice A1 ms.length c1) ms) := by rw [← hms]; exact front_any hr1 50
  have HR2 : Hid (Rd w (.slice A2 ls.length c2) ls) := by rw [← hls]; exact front_any hr2 3000
  have hk1 : ms.length ≤ l1.length := by rw [← hms, List.length_take]; omega
  have hk2 : ms.length ≤ 50 := by rw [← hms, List.length_take]; omega
  have hj1 : ls.length ≤ l2.length := by rw [← hls, List.length_take]; omega
  have hj2 : ls.length ≤ 3000 := by rw [← hls, List.length_take]; omega
  have hmin := fun W => min_run (P := Tryd.prog) #[3, 3] 3 (l1.length : Int) 50 (ms.length : Int) (by rw [← hms, List.length_take]; omega) W
  have HMIN1 := Lib.hid hmin
  have HMIN2 := Lib.hid (fun W => min_run (P := Tryd.prog) #[3, 3] 3 (l2.length : Int) 3000 (ls.length : Int) (by rw [← hls, List.length_take]; omega) W)
  have hi1 : (ms.length : Int) ≤ (l1.length : Int) := by omega
  have hi2 : (ls.length : Int) ≤ (l2.length : Int) := by omega
  clear hg b1 hf hr hc hr1 hr2 hms hls
  generalize l1.length = n1 at *
  generalize l2.length = n2 at *
  have H2 : Hid (ls.length ≤ n2 ∧ ls.length ≤ 3000 ∧ n2 ≤ c2 ∧ c2 ≤ 9223372036854775807 ∧ (ls.length : Int) ≤ (n2 : Int)) := ⟨hj1, hj2, hlc2, hc2, hi2⟩
  clear hj1 hj2 hlc2 hc2 hi2
  rw [Ip.val_lit]
  unfold Ip.obj at HS
  go_enter Tryd.func4, Tryd.ntmps4
  go_wp2_with fail
  refine HS.out.mono ?_
  rintro e w1 ⟨rfl, hl⟩
  have HX1 := Lib.hid (HX.out.below hl)
  have HB1 := Lib.hid (below_to HB.out hl HB.out.size)
  clear HS hl HX HB
  obtain ⟨d0, d1, d2, d3, d4, d5, d6, d7, d8, d9⟩ := HX1.out.cells
  go_wp2_with fail
  refine (few_lit p A0 c0 w1 HF.out (HR.out.below HB1.out) HC.out).mono ?_
  rintro e w2 ⟨q, g, k, hq, rfl, hrq, hgg, hl2⟩
  have HQ := Lib.hid hq
  have HX2 := Lib.hid (HX1.out.below hl2)
  have HRQ2 := Lib.hid hrq
  have HB2 := Lib.hid (below_to HB1.out hl2 HB1.out.size)
  have HN0 : Hid (w.heap.size < g) := Nat.lt_of_lt_of_le HX1.out.lt hgg
  clear hq hrq hgg hl2 d0 d1 d2 d3 d4 d5 d6 d7 d8 d9 HX1 HB1 HR HF HC
  go_upto_region 3 with (refine wpList_store_row rfl 27 (.tmp 3) (.tmp 16) rfl w.heap.size #[.int .u8 q.tos, .int .u16 q.id, .bool q.df, .bool q.mf, .int .i64 q.off, .int .u8 q.ttl, .int .u8 q.proto, .int .u32 q.src, .int .u32 q.dst, .slice (some ⟨g, 0, none⟩) q.b.length k] rfl rfl 27 _ HX2.out ipSize rfl (ipLit_one q _ _ _) ?_)
  have HX3 := Lib.hid (HX2.out.store q (.slice (some ⟨g, 0, none⟩) q.b.length k))
  have HRQ3 := Lib.hid (rd_row HRQ2.out (g := w.heap.size) (by have := HN0.out; omega) #[.int .u8 q.tos, .int .u16 q.id, .bool q.df, .bool q.mf, .int .i64 q.off, .int .u8 q.ttl, .int .u8 q.proto, .int .u32 q.src, .int .u32 q.dst, .slice (some ⟨g, 0, none⟩) q.b.length k])
  have HB3 := Lib.hid (below_row HB2.out (g := w.heap.size) (Nat.le_refl _) #[.int .u8 q.tos, .int .u16 q.id, .bool q.df, .bool q.mf, .int .i64 q.off, .int .u8 q.ttl, .int .u8 q.proto, .int .u32 q.src, .int .u32 q.dst, .slice (some ⟨g, 0, none⟩) q.b.length k])
  clear HX2 HRQ2 HB2
  generalize w2.setRow w.heap.size #[.int .u8 q.tos, .int .u16 q.id, .bool q.df, .bool q.mf, .int .i64 q.off, .int .u8 q.ttl, .int .u8 q.proto, .int .u32 q.src, .int .u32 q.dst, .slice (some ⟨g, 0, none⟩) q.b.length k] = W3 at *
  generalize hn : w.heap.size = n at *
  have HW := Lib.hid hn
  clear hn
  obtain ⟨d0, d1, d2, d3, d4, d5, d6, d7, d8, d9⟩ := HX3.out.cells
  by_cases hbad : q.bad = 0
  · have HBAD := Lib.hid hbad
    obtain ⟨M, hM⟩ : ∃ M, q.bs.length = M := ⟨_, rfl⟩
    have X := bytes_ok q HQ.out hbad (some ⟨g, 0, none⟩) k W3 HRQ3.out
    rw [hM] at X
    have HX := Lib.hid X
    have HM := Lib.hid hM
    have M1 : (M : Int) ≤ 3020 := by have := HQ.out.bs_le; omega
    have M2 : 20 ≤ (M : Int) := by have := q.bs_ge; omega
    clear hbad X hM
    go_wp2_with fail
    refine HX.out.mono ?_
    rintro e w4 ⟨b, rfl, _, hy, hl4⟩
    have HX4 := Lib.hid (HX3.out.below hl4)
    have HRQ4 := Lib.hid (HRQ3.out.below hl4)
    have HB4 := Lib.hid (ibelow_on HB3.out HW.out hl4)
    have HY4 := Lib.hid hy
    clear hy hl4 d0 d1 d2 d3 d4 d5 d6 d7 d8 d9 HX3 HRQ3 HB3 HX
    go_upto_region 4 with fail
    have KS : Hid (∀ W, Below w4.heap.size w4 W → W.cell? ⟨n, 0, none⟩ = some (.int .u8 q.tos) ∧ W.cell? ⟨n, 1, none⟩ = some (.int .u16 q.id) ∧ W.cell? ⟨n, 2, none⟩ = some (.bool q.df) ∧ W.cell? ⟨n, 3, none⟩ = some (.bool q.mf) ∧ W.cell? ⟨n, 4, none⟩ = some (.int .i64 q.off) ∧ W.cell? ⟨n, 5, none⟩ = some (.int .u8 q.ttl) ∧ W.cell? ⟨n, 6, none⟩ = some (.int .u8 q.proto) ∧ W.cell? ⟨n, 7, none⟩ = some (.int .u32 q.src) ∧ W.cell? ⟨n, 8, none⟩ = some (.int .u32 q.dst) ∧ W.cell? ⟨n, 9, none⟩ = some (.slice (some ⟨g, 0, none⟩) q.b.length k)) := fun W h => by
      obtain ⟨e0, e1, e2, e3, e4, e5, e6, e7, e8, e9⟩ := (HX4.out.below h).cells
      exact ⟨e0, e1, e2, e3, e4, e5, e6, e7, e8, e9⟩
    have XR := Lib.hid (right_own q HQ.out (some ⟨g, 0, none⟩) k w4.drew)
    go_region_held_law (fun W => W.cell? ⟨n, 0, none⟩ = some (.int .u8 q.tos) ∧ W.cell? ⟨n, 1, none⟩ = some (.int .u16 q.id) ∧ W.cell? ⟨n, 2, none⟩ = some (.bool q.df) ∧ W.cell? ⟨n, 3, none⟩ = some (.bool q.mf) ∧ W.cell? ⟨n, 4, none⟩ = some (.int .i64 q.off) ∧ W.cell? ⟨n, 5, none⟩ = some (.int .u8 q.ttl) ∧ W.cell? ⟨n, 6, none⟩ = some (.int .u8 q.proto) ∧ W.cell? ⟨n, 7, none⟩ = some (.int .u32 q.src) ∧ W.cell? ⟨n, 8, none⟩ = some (.int .u32 q.dst) ∧ W.cell? ⟨n, 9, none⟩ = some (.slice (some ⟨g, 0, none⟩) q.b.length k))
      (first | assumption | exact KS.out _ (below_drew w4) | exact KS.out _ HL5.out)
      (first
        | (go_at_call 18; (with_reducible refine XR.out.mono ?_); rintro e w5 ht; obtain ⟨rfl, hl5⟩ := ht.good HBAD.out; (have HL5 := Lib.hid ((below_drew w4).trans hl5)); clear hl5 ht))
    have HX5 := Lib.hid (HX4.out.below HL5.out)
    have HRQ5 := Lib.hid (HRQ4.out.below HL5.out)
    have HB5 := Lib.hid (ibelow_on HB4.out HW.out HL5.out)
    have HY5 := Lib.hid (HY4.out.below HL5.out)
    clear HX4 HRQ4 HB4 HY4 KS XR HL5
    go_upto_region 7 with fail
    go_cut [10, 11] (fun s10 s11 wx => ∃ k b', s10 = .pointer (some ⟨k, 0, none⟩) ∧ s11 = .nilIface ∧ IpAt wx k q (.slice (some ⟨b', 0, none⟩) q.b.length q.b.length) ∧ BAt wx b' q.b ∧ Below w5.heap.size w5 wx)
    case first =>
      have M0a := Lib.hid (Vk.first (Below.refl w5.heap.size w5)).drew
      have M0b := Lib.hid (Vk.first (Below.refl w5.heap.size w5)).alloc.drew
      have M0c := Lib.hid (Vk.firstX (Below.refl w5.heap.size w5)).drew
      have SR : Hid (∀ W', Below w5.heap.size w5 W' → Rd W' (.slice (some ⟨b, 0, none⟩) M M) q.bs) := fun W' h => by
        have h2 := (HY5.out.below h).rd
        rw [HM.out] at h2
        exact h2
      have MR : Hid (∀ W', Below w5.heap.size w5 W' → Rd W' (.slice A1 ms.length c1) ms) := fun W' h => HR1.out.below (by rw [HW.out]; exact ibelow_on HB5.out HW.out h)
      have HL0 : Hid (([] : List UInt8).length + q.bs.length ≤ 1099511627776) := by show _ ≤ _; have := HQ.out.bs_le; simp; omega
      have HL1 : Hid (q.bs.length + ms.length ≤ 1099511627776) := by show _ ≤ _; have := HQ.out.bs_le; omega
      have HT : Hid (M + ms.length = (q.bs ++ ms).length) := by show _ = _; rw [List.length_append, HM.out]
      have HQM : Hid (M = ([] ++ q.bs).length) := by show _ = _; rw [List.nil_append, HM.out]
      obtain ⟨T, hT⟩ : ∃ T, M + ms.length = T := ⟨_, rfl⟩
      have HTT := Lib.hid hT
      have XP : Hid (∀ (W' : World) (g c : Nat) (kx : Option Nat), Vk w5 W' g c (q.bs ++ ms) kx → Calls Tryd.prog 11 #[.slice (some ⟨g, 0, none⟩) T c] W' fun e w' => ∃ b, e = .returned (.tuple #[.agg #[.int .u8 q.tos, .int .u16 q.id, .bool q.df, .bool q.mf, .int .i64 q.off, .int .u8 q.ttl, .int .u8 q.proto, .int .u32 q.src, .int .u32 q.dst, .slice (some ⟨b, 0, none⟩) q.b.length q.b.length], .nilIface]) ∧ W'.heap.size ≤ b ∧ BAt w' b q.b ∧ Below W'.heap.size W' w') := fun W' g c kx h => parse_of q HQ.out HBAD.out ms _ W' (by rw [← hT, HT.out]; exact h.mine.rd) (by omega)
      rw [World.size_alloc] at M0b
      unfold noIpObj at M0b M0c
      clear hT hmin
      have hmin := fun W => HMIN1.out W
      have hmc : ms.length ≤ c1 := by omega
      have hmc2 : ¬ c1 < ms.length := by omega
      have hmc3 : (ms.length : Int) ≤ (c1 : Int) := by omega
      refine wp_region_any (by kernel_rfl) ?_
      change wpAny _ _ _ _ _ _ _ (World.drew _)
      refine wpAny_take (i := 1) (oi := ⟨some 32, _, _, _, _, _⟩) (v := (.slice (some ⟨b, 0, none⟩) M M)) rfl (by kernel_rfl) (by kernel_rfl) (by kernel_rfl) (fun _ _ _ h => h) (Or.inl ⟨by rfl, ?_⟩) ?_
      · intro W
        go_simp
      try simp only [Act.put, List.setIfInBounds_toArray, List.set_cons_zero, List.set_cons_succ]
      refine wpAny_take (i := 3) (oi := ⟨some 34, _, _, _, _, _⟩) (v := (.slice A1 n1 c1)) rfl (by kernel_rfl) (by kernel_rfl) (by kernel_rfl) (fun _ _ _ h => h) (Or.inl ⟨by rfl, ?_⟩) ?_
      · intro W
        go_simp
      try simp only [Act.put, List.setIfInBounds_toArray, List.set_cons_zero, List.set_cons_succ]
      refine wpAny_take (i := 4) (oi := ⟨some 35, _, _, _, _, _⟩) (v := (.slice A1 n1 c1)) rfl (by kernel_rfl) (by kernel_rfl) (by kernel_rfl) (fun _ _ _ h => h) (Or.inl ⟨by rfl, ?_⟩) ?_
      · intro W
        go_simp
      try simp only [Act.put, List.setIfInBounds_toArray, List.set_cons_zero, List.set_cons_succ]
      refine wpAny_take (i := 5) (oi := ⟨some 36, _, _, _, _, _⟩) (v := (.int .i64 (n1 : Int))) rfl (by kernel_rfl) (by kernel_rfl) (by kernel_rfl) (fun _ _ _ h => h) (Or.inl ⟨by rfl, ?_⟩) ?_
      · intro W
        go_simp
      try simp only [Act.put, List.setIfInBounds_toArray, List.set_cons_zero, List.set_cons_succ]
      refine wpAny_take (i := 6) (oi := ⟨some 37, _, _, _, _, _⟩) (v := (.int .i64 (ms.length : Int))) rfl (by kernel_rfl) (by kernel_rfl) (by kernel_rfl) (fun _ _ _ h => h) (Or.inl ⟨by rfl, ?_⟩) ?_
      · intro W
        go_simp
      try simp only [Act.put, List.setIfInBounds_toArray, List.set_cons_zero, List.set_cons_succ]
      refine wpAny_take (i := 7) (oi := ⟨some 38, _, _, _, _, _⟩) (v := (.slice A1 ms.length c1)) rfl (by kernel_rfl) (by kernel_rfl) (by kernel_rfl) (fun _ _ _ h => h) (Or.inl ⟨by rfl, ?_⟩) ?_
      · intro W
        go_simp
      try simp only [Act.put, List.setIfInBounds_toArray, List.set_cons_zero, List.set_cons_succ]
      refine wpAny_ready (rs := [0, 13]) (by kernel_rfl) (by simp) ?_
      refine AllReady.cons (o := ⟨some 31, _, _, _, _, _⟩) rfl (fun K hK => ?_) ?_
      · go_simp
        refine hK _ _ ?_
        clear hK K
        try simp only [Act.put, List.setIfInBounds_toArray, List.set_cons_zero, List.set_cons_succ]
        refine wpAny_ready (rs := [2, 13]) (by kernel_rfl) (by simp) ?_
        refine AllReady.cons (o := ⟨some 33, _, _, _, _, _⟩) rfl (fun K hK => ?_) ?_
        · refine step_append_vk rfl (.tmp 31) (.tmp 32) rfl rfl _ _ [] q.bs _ 0 M rfl rfl rfl ⟨M0a.out, SR.out _ M0a.out.mine.old⟩ HL0.out HQM.out 33 rfl ?_
          intro g1 d1 w6 h1
          have M1 := Lib.hid (show Vk w5 w6 g1 d1 q.bs _ from h1)
          clear h1
          refine hK _ _ ?_
          clear hK K
          try simp only [Act.put, List.setIfInBounds_toArray, List.set_cons_zero, List.set_cons_succ]
          refine wpAny_ready (rs := [8, 13]) (by kernel_rfl) (by simp) ?_
          refine AllReady.cons (o := ⟨some 39, _, _, _, _, _⟩) rfl (fun K hK => ?_) ?_
          · refine step_append_vk rfl (.tmp 33) (.tmp 38) rfl rfl _ _ q.bs ms _ M T rfl HM.out.symm rfl ⟨M1.out, MR.out _ M1.out.mine.old⟩ HL1.out (HTT.out.symm.trans HT.out) 39 rfl ?_
            intro g2 d2 w7 h2
            have M2 := Lib.hid h2
            clear h2
            refine hK _ _ ?_
            clear hK K
            try simp only [Act.put, List.setIfInBounds_toArray, List.set_cons_zero, List.set_cons_succ]
            refine wpAny_ready (rs := [9, 13]) (by kernel_rfl) (by simp) ?_
            refine AllReady.cons (o := ⟨some 40, _, _, _, _, _⟩) rfl (fun K hK => ?_) ?_
            · have XA := Lib.hid (XP.out _ _ _ _ M2.out)
              go_wp2_with (go_at_call 11; (with_reducible refine XA.out.mono ?_); rintro e w8 ⟨b3, rfl, hb3, hy3, hl3⟩; (have M3 := Lib.hid (M2.out.below hl3)); (have HY8 := Lib.hid hy3); (have HB8 := Lib.hid hb3); clear hl3 hy3 hb3)
              refine wpAny_take (i := 10) (oi := ⟨some 30, _, _, _, _, _⟩) (v := (.tuple #[.agg #[.int .u8 q.tos, .int .u16 q.id, .bool q.df, .bool q.mf, .int .i64 q.off, .int .u8 q.ttl, .int .u8 q.proto, .int .u32 q.src, .int .u32 q.dst, .slice (some ⟨b3, 0, none⟩) q.b.length q.b.length], .nilIface])) rfl (by kernel_rfl) (by kernel_rfl) (by kernel_rfl) (fun _ _ _ h => h) (Or.inl ⟨by rfl, ?_⟩) ?_
              · intro W
                go_simp
              try simp only [Act.put, List.setIfInBounds_toArray, List.set_cons_zero, List.set_cons_succ]
              refine wpAny_take (i := 11) (oi := ⟨some 41, _, _, _, _, _⟩) (v := (.agg #[.int .u8 q.tos, .int .u16 q.id, .bool q.df, .bool q.mf, .int .i64 q.off, .int .u8 q.ttl, .int .u8 q.proto, .int .u32 q.src, .int .u32 q.dst, .slice (some ⟨b3, 0, none⟩) q.b.length q.b.length])) rfl (by kernel_rfl) (by kernel_rfl) (by kernel_rfl) (fun _ _ _ h => h) (Or.inl ⟨by rfl, ?_⟩) ?_
              · intro W
                go_simp
              try simp only [Act.put, List.setIfInBounds_toArray, List.set_cons_zero, List.set_cons_succ]
              refine wpAny_take (i := 12) (oi := ⟨some 42, _, _, _, _, _⟩) (v := .nilIface) rfl (by kernel_rfl) (by kernel_rfl) (by kernel_rfl) (fun _ _ _ h => h) (Or.inl ⟨by rfl, ?_⟩) ?_
              · intro W
                go_simp
              try simp only [Act.put, List.setIfInBounds_toArray, List.set_cons_zero, List.set_cons_succ]
              refine wpAny_ready (rs := [13]) (by kernel_rfl) (by simp) ?_
              refine AllReady.cons (o := ⟨some 10, _, _, _, _, _⟩) rfl (fun K hK => ?_) ?_
              · go_simp
                refine hK _ _ ?_
                clear hK K
                try simp only [Act.put, List.setIfInBounds_toArray, List.set_cons_zero, List.set_cons_succ]
                refine wpAny_ready (rs := [14]) (by kernel_rfl) (by simp) ?_
                refine AllReady.cons (o := ⟨none, _, _, _, _, _⟩) rfl (fun K hK => ?_) ?_
                · refine step_store_ip rfl (.tmp 10) (.tmp 41) rfl w8.heap.size q (some ⟨b3, 0, none⟩) q.b.length q.b.length rfl rfl (heap_alloc_new w8 noIpObj) rfl ?_
                  refine hK _ _ ?_
                  clear hK K
                  try simp only [Act.put]
                  refine wpAny_take (i := 15) (oi := ⟨some 11, _, _, _, _, _⟩) (v := .nilIface) rfl (by kernel_rfl) (by kernel_rfl) (by kernel_rfl) (fun _ _ _ h => h) (Or.inl ⟨by rfl, ?_⟩) ?_
                  · intro W
                    go_simp
                  try simp only [Act.put, List.setIfInBounds_toArray, List.set_cons_zero, List.set_cons_succ]
                  refine wpAny_done (by kernel_rfl) ?_ _
                  go_wp2_with fail
                  go_meet
                  exact ⟨_, _, rfl, rfl, ip_stored (heap_alloc_new w8 noIpObj) q _, (setRow_other _ _ _ (Nat.ne_of_lt HY8.out.lt)).trans (HY8.out.below (below_al (Below.refl _ _) _)), below_row (below_al M3.out.mine.old _) M3.out.mine.old.size _⟩
                exact AllReady.nil
              exact AllReady.nil
            refine AllReady.cons (o := ⟨some 10, _, _, _, _, _⟩) rfl (fun K hK => ?_) ?_
            · go_simp
              refine hK _ _ ?_
              clear hK K
              try simp only [Act.put, List.setIfInBounds_toArray, List.set_cons_zero, List.set_cons_succ]
              refine wpAny_ready (rs := [9]) (by kernel_rfl) (by simp) ?_
              refine AllReady.cons (o := ⟨some 40, _, _, _, _, _⟩) rfl (fun K hK => ?_) ?_
              · have XA := Lib.hid (XP.out _ _ _ _ M2.out.alloc)
                unfold noIpObj at XA
                go_wp2_with (go_at_call 11; (with_reducible refine XA.out.mono ?_); rintro e w8 ⟨b3, rfl, hb3, hy3, hl3⟩; (have M3 := Lib.hid (M2.out.alloc.below hl3)); (have HY8 := Lib.hid hy3); (have HB8 := Lib.hid hb3); clear hl3 hy3 hb3)
                refine wpAny_take (i := 10) (oi := ⟨some 30, _, _, _, _, _⟩) (v := (.tuple #[.agg #[.int .u8 q.tos, .int .u16 q.id, .bool q.df, .bool q.mf, .int .i64 q.off, .int .u8 q.ttl, .int .u8 q.proto, .int .u32 q.src, .int .u32 q.dst, .slice (some ⟨b3, 0, none⟩) q.b.length q.b.length], .nilIface])) rfl (by kernel_rfl) (by kernel_rfl) (by kernel_rfl) (fun _ _ _ h => h) (Or.inl ⟨by rfl, ?_⟩) ?_
                · intro W
                  go_simp
                try simp only [Act.put, List.setIfInBounds_toArray, List.set_cons_zero, List.set_cons_succ]
                refine wpAny_take (i := 11) (oi := ⟨some 41, _, _, _, _, _⟩) (v := (.agg #[.int .u8 q.tos, .int .u16 q.id, .bool q.df, .bool q.mf, .int .i64 q.off, .int .u8 q.ttl, .int .u8 q.proto, .int .u32 q.src, .int .u32 q.dst, .slice (some ⟨b3, 0, none⟩) q.b.length q.b.length])) rfl (by kernel_rfl) (by kernel_rfl) (by kernel_rfl) (fun _ _ _ h => h) (Or.inl ⟨by rfl, ?_⟩) ?_
                · intro W
                  go_simp
                try simp only [Act.put, List.setIfInBounds_toArray, List.set_cons_zero, List.set_cons_succ]
                refine wpAny_take (i := 12) (oi := ⟨some 42, _, _, _, _, _⟩) (v := .nilIface) rfl (by kernel_rfl) (by kernel_rfl) (by kernel_rfl) (fun _ _ _ h => h) (Or.inl ⟨by rfl, ?_⟩) ?_
                · intro W
                  go_simp
                try simp only [Act.put, List.setIfInBounds_toArray, List.set_cons_zero, List.set_cons_succ]
                refine wpAny_ready (rs := [14]) (by kernel_rfl) (by simp) ?_
                refine AllReady.cons (o := ⟨none, _, _, _, _, _⟩) rfl (fun K hK => ?_) ?_
                · refine step_store_ip rfl (.tmp 10) (.tmp 41) rfl _ q (some ⟨b3, 0, none⟩) q.b.length q.b.length rfl rfl (M3.out.x _ rfl).1 rfl ?_
                  refine hK _ _ ?_
                  clear hK K
                  try simp only [Act.put]
                  refine wpAny_take (i := 15) (oi := ⟨some 11, _, _, _, _, _⟩) (v := .nilIface) rfl (by kernel_rfl) (by kernel_rfl) (by kernel_rfl) (fun _ _ _ h => h) (Or.inl ⟨by rfl, ?_⟩) ?_
                  · intro W
                    go_simp
                  try simp only [Act.put, List.setIfInBounds_toArray, List.set_cons_zero, List.set_cons_succ]
                  refine wpAny_done (by kernel_rfl) ?_ _
                  go_wp2_with fail
                  go_meet
                  obtain ⟨x1, x2, x3⟩ := M3.out.x _ rfl
                  have kl := HB8.out
                  rw [World.size_alloc] at kl
                  exact ⟨_, _, rfl, rfl, ip_stored x1 q _, (setRow_other _ _ _ (by omega)).trans HY8.out, below_row M3.out.mine.old x3 _⟩
                exact AllReady.nil
              exact AllReady.nil
            exact AllReady.nil
          refine AllReady.cons (o := ⟨some 10, _, _, _, _, _⟩) rfl (fun K hK => ?_) ?_
          · go_simp
            refine hK _ _ ?_
            clear hK K
            try simp only [Act.put, List.setIfInBounds_toArray, List.set_cons_zero, List.set_cons_succ]
            refine wpAny_ready (rs := [8]) (by kernel_rfl) (by simp) ?_
            refine AllReady.cons (o := ⟨some 39, _, _, _, _, _⟩) rfl (fun K hK => ?_) ?_
            · refine step_append_vk rfl (.tmp 33) (.tmp 38) rfl rfl _ _ q.bs ms _ M T rfl HM.out.symm rfl ⟨M1.out.alloc, MR.out _ M1.out.alloc.mine.old⟩ HL1.out (HTT.out.symm.trans HT.out) 39 rfl ?_
              intro g2 d2 w7 h2
              have M2 := Lib.hid h2
              clear h2
              refine hK _ _ ?_
              clear hK K
              try simp only [Act.put, List.setIfInBounds_toArray, List.set_cons_zero, List.set_cons_succ]
              refine wpAny_ready (rs := [9]) (by kernel_rfl) (by simp) ?_
              refine AllReady.cons (o := ⟨some 40, _, _, _, _, _⟩) rfl (fun K hK => ?_) ?_
              · have XA := Lib.hid (XP.out _ _ _ _ M2.out)
                go_wp2_with (go_at_call 11; (with_reducible refine XA.out.mono ?_); rintro e w8 ⟨b3, rfl, hb3, hy3, hl3⟩; (have M3 := Lib.hid (M2.out.below hl3)); (have HY8 := Lib.hid hy3); (have HB8 := Lib.hid hb3); clear hl3 hy3 hb3)
                refine wpAny_take (i := 10) (oi := ⟨some 30, _, _, _, _, _⟩) (v := (.tuple #[.agg #[.int .u8 q.tos, .int .u16 q.id, .bool q.df, .bool q.mf, .int .i64 q.off, .int .u8 q.ttl, .int .u8 q.proto, .int .u32 q.src, .int .u32 q.dst, .slice (some ⟨b3, 0, none⟩) q.b.length q.b.length], .nilIface])) rfl (by kernel_rfl) (by kernel_rfl) (by kernel_rfl) (fun _ _ _ h => h) (Or.inl ⟨by rfl, ?_⟩) ?_
                · intro W
                  go_simp
                try simp only [Act.put, List.setIfInBounds_toArray, List.set_cons_zero, List.set_cons_succ]
                refine wpAny_take (i := 11) (oi := ⟨some 41, _, _, _, _, _⟩) (v := (.agg #[.int .u8 q.tos, .int .u16 q.id, .bool q.df, .bool q.mf, .int .i64 q.off, .int .u8 q.ttl, .int .u8 q.proto, .int .u32 q.src, .int .u32 q.dst, .slice (some ⟨b3, 0, none⟩) q.b.length q.b.length])) rfl (by kernel_rfl) (by kernel_rfl) (by kernel_rfl) (fun _ _ _ h => h) (Or.inl ⟨by rfl, ?_⟩) ?_
                · intro W
                  go_simp
                try simp only [Act.put, List.setIfInBounds_toArray, List.set_cons_zero, List.set_cons_succ]
                refine wpAny_take (i := 12) (oi := ⟨some 42, _, _, _, _, _⟩) (v := .nilIface) rfl (by kernel_rfl) (by kernel_rfl) (by kernel_rfl) (fun _ _ _ h => h) (Or.inl ⟨by rfl, ?_⟩) ?_
                · intro W
                  go_simp
                try simp only [Act.put, List.setIfInBounds_toArray, List.set_cons_zero, List.set_cons_succ]
                refine wpAny_ready (rs := [14]) (by kernel_rfl) (by simp) ?_
                refine AllReady.cons (o := ⟨none, _, _, _, _, _⟩) rfl (fun K hK => ?_) ?_
                · refine step_store_ip rfl (.tmp 10) (.tmp 41) rfl _ q (some ⟨b3, 0, none⟩) q.b.length q.b.length rfl rfl (M3.out.x _ rfl).1 rfl ?_
                  refine hK _ _ ?_
                  clear hK K
                  try simp only [Act.put]
                  refine wpAny_take (i := 15) (oi := ⟨some 11, _, _, _, _, _⟩) (v := .nilIface) rfl (by kernel_rfl) (by kernel_rfl) (by kernel_rfl) (fun _ _ _ h => h) (Or.inl ⟨by rfl, ?_⟩) ?_
                  · intro W
                    go_simp
                  try simp only [Act.put, List.setIfInBounds_toArray, List.set_cons_zero, List.set_cons_succ]
                  refine wpAny_done (by kernel_rfl) ?_ _
                  go_wp2_with fail
                  go_meet
                  obtain ⟨x1, x2, x3⟩ := M3.out.x _ rfl
                  have kl := Nat.lt_of_lt_of_le (Array.getElem?_eq_some_iff.1 (M2.out.x _ rfl).1).1 HB8.out
                  exact ⟨_, _, rfl, rfl, ip_stored x1 q _, (setRow_other _ _ _ (by omega)).trans HY8.out, below_row M3.out.mine.old x3 _⟩
                exact AllReady.nil
              exact AllReady.nil
            exact AllReady.nil
          exact AllReady.nil
        refine AllReady.cons (o := ⟨some 10, _, _, _, _, _⟩) rfl (fun K hK => ?_) ?_
        · go_simp
          refine hK _ _ ?_
          clear hK K
          try simp only [Act.put, List.setIfInBounds_toArray, List.set_cons_zero, List.set_cons_succ]
          refine wpAny_ready (rs := [2]) (by kernel_rfl) (by simp) ?_
          refine AllReady.cons (o := ⟨some 33, _, _, _, _, _⟩) rfl (fun K hK => ?_) ?_
          · refine step_append_vk rfl (.tmp 31) (.tmp 32) rfl rfl _ _ [] q.bs _ 0 M rfl rfl rfl ⟨M0b.out, SR.out _ M0b.out.mine.old⟩ HL0.out HQM.out 33 rfl ?_
            intro g1 d1 w6 h1
            have M1 := Lib.hid (show Vk w5 w6 g1 d1 q.bs _ from h1)
            clear h1
            refine hK _ _ ?_
            clear hK K
            try simp only [Act.put, List.setIfInBounds_toArray, List.set_cons_zero, List.set_cons_succ]
            refine wpAny_ready (rs := [8]) (by kernel_rfl) (by simp) ?_
            refine AllReady.cons (o := ⟨some 39, _, _, _, _, _⟩) rfl (fun K hK => ?_) ?_
            · refine step_append_vk rfl (.tmp 33) (.tmp 38) rfl rfl _ _ q.bs ms _ M T rfl HM.out.symm rfl ⟨M1.out, MR.out _ M1.out.mine.old⟩ HL1.out (HTT.out.symm.trans HT.out) 39 rfl ?_
              intro g2 d2 w7 h2
              have M2 := Lib.hid h2
              clear h2
              refine hK _ _ ?_
              clear hK K
              try simp only [Act.put, List.setIfInBounds_toArray, List.set_cons_zero, List.set_cons_succ]
              refine wpAny_ready (rs := [9]) (by kernel_rfl) (by simp) ?_
              refine AllReady.cons (o := ⟨some 40, _, _, _, _, _⟩) rfl (fun K hK => ?_) ?_
              · have XA := Lib.hid (XP.out _ _ _ _ M2.out)
                go_wp2_with (go_at_call 11; (with_reducible refine XA.out.mono ?_); rintro e w8 ⟨b3, rfl, hb3, hy3, hl3⟩; (have M3 := Lib.hid (M2.out.below hl3)); (have HY8 := Lib.hid hy3); (have HB8 := Lib.hid hb3); clear hl3 hy3 hb3)
                refine wpAny_take (i := 10) (oi := ⟨some 30, _, _, _, _, _⟩) (v := (.tuple #[.agg #[.int .u8 q.tos, .int .u16 q.id, .bool q.df, .bool q.mf, .int .i64 q.off, .int .u8 q.ttl, .int .u8 q.proto, .int .u32 q.src, .int .u32 q.dst, .slice (some ⟨b3, 0, none⟩) q.b.length q.b.length], .nilIface])) rfl (by kernel_rfl) (by kernel_rfl) (by kernel_rfl) (fun _ _ _ h => h) (Or.inl ⟨by rfl, ?_⟩) ?_
                · intro W
                  go_simp
                try simp only [Act.put, List.setIfInBounds_toArray, List.set_cons_zero, List.set_cons_succ]
                refine wpAny_take (i := 11) (oi := ⟨some 41, _, _, _, _, _⟩) (v := (.agg #[.int .u8 q.tos, .int .u16 q.id, .bool q.df, .bool q.mf, .int .i64 q.off, .int .u8 q.ttl, .int .u8 q.proto, .int .u32 q.src, .int .u32 q.dst, .slice (some ⟨b3, 0, none⟩) q.b.length q.b.length])) rfl (by kernel_rfl) (by kernel_rfl) (by kernel_rfl) (fun _ _ _ h => h) (Or.inl ⟨by rfl, ?_⟩) ?_
                · intro W
                  go_simp
                try simp only [Act.put, List.setIfInBounds_toArray, List.set_cons_zero, List.set_cons_succ]
                refine wpAny_take (i := 12) (oi := ⟨some 42, _, _, _, _, _⟩) (v := .nilIface) rfl (by kernel_rfl) (by kernel_rfl) (by kernel_rfl) (fun _ _ _ h => h) (Or.inl ⟨by rfl, ?_⟩) ?_
                · intro W
                  go_simp
                try simp only [Act.put, List.setIfInBounds_toArray, List.set_cons_zero, List.set_cons_succ]
                refine wpAny_ready (rs := [14]) (by kernel_rfl) (by simp) ?_
                refine AllReady.cons (o := ⟨none, _, _, _, _, _⟩) rfl (fun K hK => ?_) ?_
                · refine step_store_ip rfl (.tmp 10) (.tmp 41) rfl _ q (some ⟨b3, 0, none⟩) q.b.length q.b.length rfl rfl (M3.out.x _ rfl).1 rfl ?_
                  refine hK _ _ ?_
                  clear hK K
                  try simp only [Act.put]
                  refine wpAny_take (i := 15) (oi := ⟨some 11, _, _, _, _, _⟩) (v := .nilIface) rfl (by kernel_rfl) (by kernel_rfl) (by kernel_rfl) (fun _ _ _ h => h) (Or.inl ⟨by rfl, ?_⟩) ?_
                  · intro W
                    go_simp
                  try simp only [Act.put, List.setIfInBounds_toArray, List.set_cons_zero, List.set_cons_succ]
                  refine wpAny_done (by kernel_rfl) ?_ _
                  go_wp2_with fail
                  go_meet
                  obtain ⟨x1, x2, x3⟩ := M3.out.x _ rfl
                  have kl := Nat.lt_of_lt_of_le (Array.getElem?_eq_some_iff.1 (M2.out.x _ rfl).1).1 HB8.out
                  exact ⟨_, _, rfl, rfl, ip_stored x1 q _, (setRow_other _ _ _ (by omega)).trans HY8.out, below_row M3.out.mine.old x3 _⟩
                exact AllReady.nil
              exact AllReady.nil
            exact AllReady.nil
          exact AllReady.nil
        exact AllReady.nil
      refine AllReady.cons (o := ⟨some 10, _, _, _, _, _⟩) rfl (fun K hK => ?_) ?_
      · go_simp
        refine hK _ _ ?_
        clear hK K
        try simp only [Act.put, List.setIfInBounds_toArray, List.set_cons_zero, List.set_cons_succ]
        refine wpAny_ready (rs := [0]) (by kernel_rfl) (by simp) ?_
        refine AllReady.cons (o := ⟨some 31, _, _, _, _, _⟩) rfl (fun K hK => ?_) ?_
        · go_simp
          refine hK _ _ ?_
          clear hK K
          try simp only [Act.put, List.setIfInBounds_toArray, List.set_cons_zero, List.set_cons_succ]
          refine wpAny_ready (rs := [2]) (by kernel_rfl) (by simp) ?_
          refine AllReady.cons (o := ⟨some 33, _, _, _, _, _⟩) rfl (fun K hK => ?_) ?_
          · refine step_append_vk rfl (.tmp 31) (.tmp 32) rfl rfl _ _ [] q.bs _ 0 M rfl rfl rfl ⟨M0c.out, SR.out _ M0c.out.mine.old⟩ HL0.out HQM.out 33 rfl ?_
            intro g1 d1 w6 h1
            have M1 := Lib.hid (show Vk w5 w6 g1 d1 q.bs _ from h1)
            clear h1
            refine hK _ _ ?_
            clear hK K
            try simp only [Act.put, List.setIfInBounds_toArray, List.set_cons_zero, List.set_cons_succ]
            refine wpAny_ready (rs := [8]) (by kernel_rfl) (by simp) ?_
            refine AllReady.cons (o := ⟨some 39, _, _, _, _, _⟩) rfl (fun K hK => ?_) ?_
            · refine step_append_vk rfl (.tmp 33) (.tmp 38) rfl rfl _ _ q.bs ms _ M T rfl HM.out.symm rfl ⟨M1.out, MR.out _ M1.out.mine.old⟩ HL1.out (HTT.out.symm.trans HT.out) 39 rfl ?_
              intro g2 d2 w7 h2
              have M2 := Lib.hid h2
              clear h2
              refine hK _ _ ?_
              clear hK K
              try simp only [Act.put, List.setIfInBounds_toArray, List.set_cons_zero, List.set_cons_succ]
              refine wpAny_ready (rs := [9]) (by kernel_rfl) (by simp) ?_
              refine AllReady.cons (o := ⟨some 40, _, _, _, _, _⟩) rfl (fun K hK => ?_) ?_
              · have XA := Lib.hid (XP.out _ _ _ _ M2.out)
                go_wp2_with (go_at_call 11; (with_reducible refine XA.out.mono ?_); rintro e w8 ⟨b3, rfl, hb3, hy3, hl3⟩; (have M3 := Lib.hid (M2.out.below hl3)); (have HY8 := Lib.hid hy3); (have HB8 := Lib.hid hb3); clear hl3 hy3 hb3)
                refine wpAny_take (i := 10) (oi := ⟨some 30, _, _, _, _, _⟩) (v := (.tuple #[.agg #[.int .u8 q.tos, .int .u16 q.id, .bool q.df, .bool q.mf, .int .i64 q.off, .int .u8 q.ttl, .int .u8 q.proto, .int .u32 q.src, .int .u32 q.dst, .slice (some ⟨b3, 0, none⟩) q.b.length q.b.length], .nilIface])) rfl (by kernel_rfl) (by kernel_rfl) (by kernel_rfl) (fun _ _ _ h => h) (Or.inl ⟨by rfl, ?_⟩) ?_
                · intro W
                  go_simp
                try simp only [Act.put, List.setIfInBounds_toArray, List.set_cons_zero, List.set_cons_succ]
                refine wpAny_take (i := 11) (oi := ⟨some 41, _, _, _, _, _⟩) (v := (.agg #[.int .u8 q.tos, .int .u16 q.id, .bool q.df, .bool q.mf, .int .i64 q.off, .int .u8 q.ttl, .int .u8 q.proto, .int .u32 q.src, .int .u32 q.dst, .slice (some ⟨b3, 0, none⟩) q.b.length q.b.length])) rfl (by kernel_rfl) (by kernel_rfl) (by kernel_rfl) (fun _ _ _ h => h) (Or.inl ⟨by rfl, ?_⟩) ?_
                · intro W
                  go_simp
                try simp only [Act.put, List.setIfInBounds_toArray, List.set_cons_zero, List.set_cons_succ]
                refine wpAny_take (i := 12) (oi := ⟨some 42, _, _, _, _, _⟩) (v := .nilIface) rfl (by kernel_rfl) (by kernel_rfl) (by kernel_rfl) (fun _ _ _ h => h) (Or.inl ⟨by rfl, ?_⟩) ?_
                · intro W
                  go_simp
                try simp only [Act.put, List.setIfInBounds_toArray, List.set_cons_zero, List.set_cons_succ]
                refine wpAny_ready (rs := [14]) (by kernel_rfl) (by simp) ?_
                refine AllReady.cons (o := ⟨none, _, _, _, _, _⟩) rfl (fun K hK => ?_) ?_
                · refine step_store_ip rfl (.tmp 10) (.tmp 41) rfl _ q (some ⟨b3, 0, none⟩) q.b.length q.b.length rfl rfl (M3.out.x _ rfl).1 rfl ?_
                  refine hK _ _ ?_
                  clear hK K
                  try simp only [Act.put]
                  refine wpAny_take (i := 15) (oi := ⟨some 11, _, _, _, _, _⟩) (v := .nilIface) rfl (by kernel_rfl) (by kernel_rfl) (by kernel_rfl) (fun _ _ _ h => h) (Or.inl ⟨by rfl, ?_⟩) ?_
                  · intro W
                    go_simp
                  try simp only [Act.put, List.setIfInBounds_toArray, List.set_cons_zero, List.set_cons_succ]
                  refine wpAny_done (by kernel_rfl) ?_ _
                  go_wp2_with fail
                  go_meet
                  obtain ⟨x1, x2, x3⟩ := M3.out.x _ rfl
                  have kl := Nat.lt_of_lt_of_le (Array.getElem?_eq_some_iff.1 (M2.out.x _ rfl).1).1 HB8.out
                  exact ⟨_, _, rfl, rfl, ip_stored x1 q _, (setRow_other _ _ _ (by omega)).trans HY8.out, below_row M3.out.mine.old x3 _⟩
                exact AllReady.nil
              exact AllReady.nil
            exact AllReady.nil
          exact AllReady.nil
        exact AllReady.nil
      exact AllReady.nil
    case rest =>
      obtain ⟨kx, b', rfl, rfl, hx6, hy6, hb6⟩ := hcut
      generalize wc = w6 at *
      have HX6 := Lib.hid (HX5.out.below hb6)
      have HRQ6 := Lib.hid (HRQ5.out.below hb6)
      have HB6 := Lib.hid (ibelow_on HB5.out HW.out hb6)
      have HK6 := Lib.hid hx6
      have HY6 := Lib.hid hy6
      clear hx6 hy6 hb6 HX5 HRQ5 HB5 HY5
      obtain ⟨d0, d1, d2, d3, d4, d5, d6, d7, d8, d9⟩ := HX6.out.cells
      obtain ⟨f0, f1, f2, f3, f4, f5, f6, f7, f8, f9⟩ := HK6.out.cells
      have XS := same_lit q q HQ.out.inn HQ.out.inn (some ⟨g, 0, none⟩) (some ⟨b', 0, none⟩) k q.b.length w6 HRQ6.out HY6.out.rd
      rw [ipB_same] at XS
      have HXS := Lib.hid XS
      have e20 : 20 + (q.b.length : Int) = (M : Int) := by have := q.bs_len; have := HM.out; omega
      have e21 : (q.b.length : Int) ≤ 3000 := by have := HQ.out.few; omega
      clear XS
      go_wp2_with fail
      refine HXS.out.mono ?_
      rintro e w7 ⟨rfl, hl7⟩
      have HX7 := Lib.hid (HX6.out.below hl7)
      have HB7 := Lib.hid (ibelow_on HB6.out HW.out hl7)
      clear hl7 HXS HX6 HRQ6 HB6 HK6 HY6 d0 d1 d2 d3 d4 d5 d6 d7 d8 d9 f0 f1 f2 f3 f4 f5 f6 f7 f8 f9
      have d9 := HX7.out.cells.2.2.2.2.2.2.2.2.2
      go_upto_region 10 with fail
      clear d9 e20 e21
      obtain ⟨r1, r2, r3, r4, r5⟩ := H2.out
      have hm2 := HMIN2.out
      have r6 : ls.length ≤ c2 := by omega
      have r7 : ¬ c2 < ls.length := by omega
      have r8 : (ls.length : Int) ≤ (c2 : Int) := by omega
      have HRL : Hid (Rd w7 (.slice A2 ls.length c2) ls) := HR2.out.below (by rw [HW.out]; exact HB7.out)
      go_upto_region 11 with fail
      clear r1 r2 r3 r4 r5 r6 r7 r8 hm2
      rcases parse_kind ls H2.out.2.1 with hkd | ⟨z, hz, hzb, hzl, hzn, hkd⟩
      · as_aux_lemma =>
          have XK := Lib.hid (hkd _ w7 HRL.out)
          clear hkd
          go_wp2_with fail
          refine XK.out.mono ?_
          rintro e w9 ⟨n9, l9, b9, he, _, hl9⟩
          have he' : e = .returned (.tuple #[.agg #[.int .u8 0, .int .u16 0, .bool false, .bool false, .int .i64 0, .int .u8 0, .int .u8 0, .int .u32 0, .int .u32 0, .slice none 0 0], .iface 81 (.pointer (some ⟨b9, 0, none⟩))]) := he
          subst he'
          have hb10 := below_al (Below.refl w9.heap.size w9) (.cells #[.int .u8 0, .int .u16 0, .bool false, .bool false, .int .i64 0, .int .u8 0, .int .u8 0, .int .u32 0, .int .u32 0, .slice none 0 0] 27)
          have HX10 := Lib.hid (heap_alloc_new w9 (.cells #[.int .u8 0, .int .u16 0, .bool false, .bool false, .int .i64 0, .int .u8 0, .int .u8 0, .int .u32 0, .int .u32 0, .slice none 0 0] 27))
          have HB10 := Lib.hid (ibelow_on HB7.out HW.out (below_to hl9 hb10 hl9.size))
          clear he hl9 hb10 XK HRL
          go_upto_region 12 with fail
          generalize w9.alloc (.cells #[.int .u8 0, .int .u16 0, .bool false, .bool false, .int .i64 0, .int .u8 0, .int .u8 0, .int .u32 0, .int .u32 0, .slice none 0 0] 27) = W10 at *
          generalize w9.heap.size = g10 at *
          have XS : Hid (Calls Tryd.prog 19 #[.agg #[.int .u8 0, .int .u16 0, .bool false, .bool false, .int .i64 0, .int .u8 0, .int .u8 0, .int .u32 0, .int .u32 0, .slice none 0 0], .agg #[.int .u8 0, .int .u16 0, .bool false, .bool false, .int .i64 0, .int .u8 0, .int .u8 0, .int .u32 0, .int .u32 0, .slice none 0 0]] W10 fun e w' => e = .returned (.bool (ipB noIp noIp)) ∧ Below W10.heap.size W10 w') := same_any noIp noIp noIp_in noIp_in none none 0 0 W10 (Rd.nil _) (Rd.nil _)
          rw [ipB_same] at XS
          obtain ⟨d0, d1, d2, d3, d4, d5, d6, d7, d8, d9⟩ := cells10 HX10.out
          go_wp2_with fail
          refine XS.out.mono ?_
          rintro e w11 ⟨rfl, hl11⟩
          have HB11 := Lib.hid (ibelow_on HB10.out HW.out hl11)
          clear hl11 XS HB10 d0 d1 d2 d3 d4 d5 d6 d7 d8 d9
          go_wp2_with fail
          go_ret
          exact ⟨rfl, by rw [HW.out]; exact HB11.out⟩
      · as_aux_lemma =>
          have XK := Lib.hid (hkd _ w7 HRL.out)
          have HZ := Lib.hid hz
          have HZB := Lib.hid hzb
          have HZL := Lib.hid hzl
          have HZN := Lib.hid hzn
          clear hkd hz hzb hzl hzn
          go_wp2_with fail
          refine XK.out.mono ?_
          rintro e w9 ⟨b9, he, _, ho9, hl9⟩
          have he' : e = .returned (.tuple #[.agg #[.int .u8 z.tos, .int .u16 z.id, .bool z.df, .bool z.mf, .int .i64 z.off, .int .u8 z.ttl, .int .u8 z.proto, .int .u32 z.src, .int .u32 z.dst, .slice (some ⟨b9, 0, none⟩) z.b.length z.b.length], .nilIface]) := he
          subst he'
          have hb10 := below_al (Below.refl w9.heap.size w9) (.cells #[.int .u8 z.tos, .int .u16 z.id, .bool z.df, .bool z.mf, .int .i64 z.off, .int .u8 z.ttl, .int .u8 z.proto, .int .u32 z.src, .int .u32 z.dst, .slice (some ⟨b9, 0, none⟩) z.b.length z.b.length] 27)
          have HX10 := Lib.hid (heap_alloc_new w9 (.cells #[.int .u8 z.tos, .int .u16 z.id, .bool z.df, .bool z.mf, .int .i64 z.off, .int .u8 z.ttl, .int .u8 z.proto, .int .u32 z.src, .int .u32 z.dst, .slice (some ⟨b9, 0, none⟩) z.b.length z.b.length] 27))
          have HRZ10 := Lib.hid (Rd.below (Rd.of_obj (c := z.b.length) ho9 (Nat.le_refl _)) hb10)
          have HRL10 := Lib.hid (HRL.out.below (below_to hl9 hb10 hl9.size))
          have HB10 := Lib.hid (ibelow_on HB7.out HW.out (below_to hl9 hb10 hl9.size))
          clear he hl9 hb10 XK HRL ho9
          go_upto_region 12 with fail
          generalize w9.alloc (.cells #[.int .u8 z.tos, .int .u16 z.id, .bool z.df, .bool z.mf, .int .i64 z.off, .int .u8 z.ttl, .int .u8 z.proto, .int .u32 z.src, .int .u32 z.dst, .slice (some ⟨b9, 0, none⟩) z.b.length z.b.length] 27) = W10 at *
          generalize w9.heap.size = g10 at *
          obtain ⟨d0, d1, d2, d3, d4, d5, d6, d7, d8, d9⟩ := cells10 HX10.out
          obtain ⟨N, hN⟩ : ∃ N, z.bs.length = N := ⟨_, rfl⟩
          have X := bytes_ok z HZ.out HZB.out (some ⟨b9, 0, none⟩) z.b.length W10 HRZ10.out
          rw [hN] at X
          have HX := Lib.hid X
          have HNN := Lib.hid hN
          clear X hN
          go_wp2_with fail
          refine HX.out.mono ?_
          rintro e w11 ⟨b11, rfl, _, hy11, hl11⟩
          have HB11 := Lib.hid (ibelow_on HB10.out HW.out hl11)
          have XA : Hid (Calls Tryd.prog 20 #[.slice (some ⟨b11, 0, none⟩) N N, .slice A2 ls.length c2] w11 fun e w' => e = .returned (.bool true) ∧ Below w11.heap.size w11 w') := by
            have h := alike_near (some ⟨b11, 0, none⟩) A2 z.bs.length c2 z.bs ls w11 hy11.rd (HRL10.out.below hl11) HZL.out (by have := z.bs_ge; omega) (by have := H2.out.2.1; omega) HZN.out
            rw [HNN.out] at h
            exact h
          have nl : (N : Int) ≤ (ls.length : Int) := by have := HZL.out; have := HNN.out; omega
          clear hy11 hl11 HX d0 d1 d2 d3 d4 d5 d6 d7 d8 d9 HB10 HRL10 HRZ10
          go_wp2_with fail
          refine XA.out.mono ?_
          rintro e w12 ⟨rfl, hl12⟩
          have HB12 := Lib.hid (ibelow_on HB11.out HW.out hl12)
          clear hl12 XA HB11 nl
          go_wp2_with fail
          go_ret
          exact ⟨rfl, by rw [HW.out]; exact HB12.out⟩
  · have HBAD := Lib.hid hbad
    have X := Lib.hid (bytes_bad q HQ.out hbad (some ⟨g, 0, none⟩) k W3)
    clear hbad
    go_wp2_with fail
    refine X.out.mono ?_
    rintro e w4 ⟨b, rfl, _, hl4⟩
    have HX4 := Lib.hid (HX3.out.below hl4)
    have HB4 := Lib.hid (ibelow_on HB3.out HW.out hl4)
    clear hl4 d0 d1 d2 d3 d4 d5 d6 d7 d8 d9 HX3 HRQ3 HB3 X
    go_upto_region 4 with fail
    have KS : Hid (∀ W, Below w4.heap.size w4 W → W.cell? ⟨n, 0, none⟩ = some (.int .u8 q.tos) ∧ W.cell? ⟨n, 1, none⟩ = some (.int .u16 q.id) ∧ W.cell? ⟨n, 2, none⟩ = some (.bool q.df) ∧ W.cell? ⟨n, 3, none⟩ = some (.bool q.mf) ∧ W.cell? ⟨n, 4, none⟩ = some (.int .i64 q.off) ∧ W.cell? ⟨n, 5, none⟩ = some (.int .u8 q.ttl) ∧ W.cell? ⟨n, 6, none⟩ = some (.int .u8 q.proto) ∧ W.cell? ⟨n, 7, none⟩ = some (.int .u32 q.src) ∧ W.cell? ⟨n, 8, none⟩ = some (.int .u32 q.dst) ∧ W.cell? ⟨n, 9, none⟩ = some (.slice (some ⟨g, 0, none⟩) q.b.length k)) := fun W h => by
      obtain ⟨e0, e1, e2, e3, e4, e5, e6, e7, e8, e9⟩ := (HX4.out.below h).cells
      exact ⟨e0, e1, e2, e3, e4, e5, e6, e7, e8, e9⟩
    have XR := Lib.hid (right_own q HQ.out (some ⟨g, 0, none⟩) k w4.drew)
    go_region_held_law (fun W => W.cell? ⟨n, 0, none⟩ = some (.int .u8 q.tos) ∧ W.cell? ⟨n, 1, none⟩ = some (.int .u16 q.id) ∧ W.cell? ⟨n, 2, none⟩ = some (.bool q.df) ∧ W.cell? ⟨n, 3, none⟩ = some (.bool q.mf) ∧ W.cell? ⟨n, 4, none⟩ = some (.int .i64 q.off) ∧ W.cell? ⟨n, 5, none⟩ = some (.int .u8 q.ttl) ∧ W.cell? ⟨n, 6, none⟩ = some (.int .u8 q.proto) ∧ W.cell? ⟨n, 7, none⟩ = some (.int .u32 q.src) ∧ W.cell? ⟨n, 8, none⟩ = some (.int .u32 q.dst) ∧ W.cell? ⟨n, 9, none⟩ = some (.slice (some ⟨g, 0, none⟩) q.b.length k))
      (first | assumption | exact KS.out _ (below_drew w4) | exact KS.out _ HL5.out)
      (first
        | (go_at_call 18; (with_reducible refine XR.out.mono ?_); rintro e w5 ht; obtain ⟨b5, rfl, _, hl5⟩ := ht.bad HBAD.out; (have HL5 := Lib.hid ((below_drew w4).trans hl5)); clear hl5 ht))
    have HB5 := Lib.hid (ibelow_on HB4.out HW.out HL5.out)
    clear HX4 HB4 KS XR HL5
    go_upto_region 10 with fail
    obtain ⟨r1, r2, r3, r4, r5⟩ := H2.out
    have hm2 := HMIN2.out
    have r6 : ls.length ≤ c2 := by omega
    have r7 : ¬ c2 < ls.length := by omega
    have r8 : (ls.length : Int) ≤ (c2 : Int) := by omega
    have HRL : Hid (Rd w5 (.slice A2 ls.length c2) ls) := HR2.out.below (by rw [HW.out]; exact HB5.out)
    go_upto_region 11 with fail
    clear r1 r2 r3 r4 r5 r6 r7 r8 hm2
    rcases parse_kind ls H2.out.2.1 with hkd | ⟨z, hz, hzb, hzl, hzn, hkd⟩
    · as_aux_lemma =>
        have XK := Lib.hid (hkd _ w5 HRL.out)
        clear hkd
        go_wp2_with fail
        refine XK.out.mono ?_
        rintro e w9 ⟨n9, l9, b9, he, _, hl9⟩
        have he' : e = .returned (.tuple #[.agg #[.int .u8 0, .int .u16 0, .bool false, .bool false, .int .i64 0, .int .u8 0, .int .u8 0, .int .u32 0, .int .u32 0, .slice none 0 0], .iface 81 (.pointer (some ⟨b9, 0, none⟩))]) := he
        subst he'
        have hb10 := below_al (Below.refl w9.heap.size w9) (.cells #[.int .u8 0, .int .u16 0, .bool false, .bool false, .int .i64 0, .int .u8 0, .int .u8 0, .int .u32 0, .int .u32 0, .slice none 0 0] 27)
        have HX10 := Lib.hid (heap_alloc_new w9 (.cells #[.int .u8 0, .int .u16 0, .bool false, .bool false, .int .i64 0, .int .u8 0, .int .u8 0, .int .u32 0, .int .u32 0, .slice none 0 0] 27))
        have HB10 := Lib.hid (ibelow_on HB5.out HW.out (below_to hl9 hb10 hl9.size))
        clear he hl9 hb10 XK HRL
        go_upto_region 12 with fail
        generalize w9.alloc (.cells #[.int .u8 0, .int .u16 0, .bool false, .bool false, .int .i64 0, .int .u8 0, .int .u8 0, .int .u32 0, .int .u32 0, .slice none 0 0] 27) = W10 at *
        generalize w9.heap.size = g10 at *
        have XS : Hid (Calls Tryd.prog 19 #[.agg #[.int .u8 0, .int .u16 0, .bool false, .bool false, .int .i64 0, .int .u8 0, .int .u8 0, .int .u32 0, .int .u32 0, .slice none 0 0], .agg #[.int .u8 0, .int .u16 0, .bool false, .bool false, .int .i64 0, .int .u8 0, .int .u8 0, .int .u32 0, .int .u32 0, .slice none 0 0]] W10 fun e w' => e = .returned (.bool (ipB noIp noIp)) ∧ Below W10.heap.size W10 w') := same_any noIp noIp noIp_in noIp_in none none 0 0 W10 (Rd.nil _) (Rd.nil _)
        rw [ipB_same] at XS
        obtain ⟨d0, d1, d2, d3, d4, d5, d6, d7, d8, d9⟩ := cells10 HX10.out
        go_wp2_with fail
        refine XS.out.mono ?_
        rintro e w11 ⟨rfl, hl11⟩
        have HB11 := Lib.hid (ibelow_on HB10.out HW.out hl11)
        clear hl11 XS HB10 d0 d1 d2 d3 d4 d5 d6 d7 d8 d9
        go_wp2_with fail
        go_ret
        exact ⟨rfl, by rw [HW.out]; exact HB11.out⟩
    · as_aux_lemma =>
        have XK := Lib.hid (hkd _ w5 HRL.out)
        have HZ := Lib.hid hz
        have HZB := Lib.hid hzb
        have HZL := Lib.hid hzl
        have HZN := Lib.hid hzn
        clear hkd hz hzb hzl hzn
        go_wp2_with fail
        refine XK.out.mono ?_
        rintro e w9 ⟨b9, he, _, ho9, hl9⟩
        have he' : e = .returned (.tuple #[.agg #[.int .u8 z.tos, .int .u16 z.id, .bool z.df, .bool z.mf, .int .i64 z.off, .int .u8 z.ttl, .int .u8 z.proto, .int .u32 z.src, .int .u32 z.dst, .slice (some ⟨b9, 0, none⟩) z.b.length z.b.length], .nilIface]) := he
        subst he'
        have hb10 := below_al (Below.refl w9.heap.size w9) (.cells #[.int .u8 z.tos, .int .u16 z.id, .bool z.df, .bool z.mf, .int .i64 z.off, .int .u8 z.ttl, .int .u8 z.proto, .int .u32 z.src, .int .u32 z.dst, .slice (some ⟨b9, 0, none⟩) z.b.length z.b.length] 27)
        have HX10 := Lib.hid (heap_alloc_new w9 (.cells #[.int .u8 z.tos, .int .u16 z.id, .bool z.df, .bool z.mf, .int .i64 z.off, .int .u8 z.ttl, .int .u8 z.proto, .int .u32 z.src, .int .u32 z.dst, .slice (some ⟨b9, 0, none⟩) z.b.length z.b.length] 27))
        have HRZ10 := Lib.hid (Rd.below (Rd.of_obj (c := z.b.length) ho9 (Nat.le_refl _)) hb10)
        have HRL10 := Lib.hid (HRL.out.below (below_to hl9 hb10 hl9.size))
        have HB10 := Lib.hid (ibelow_on HB5.out HW.out (below_to hl9 hb10 hl9.size))
        clear he hl9 hb10 XK HRL ho9
        go_upto_region 12 with fail
        generalize w9.alloc (.cells #[.int .u8 z.tos, .int .u16 z.id, .bool z.df, .bool z.mf, .int .i64 z.off, .int .u8 z.ttl, .int .u8 z.proto, .int .u32 z.src, .int .u32 z.dst, .slice (some ⟨b9, 0, none⟩) z.b.length z.b.length] 27) = W10 at *
        generalize w9.heap.size = g10 at *
        obtain ⟨d0, d1, d2, d3, d4, d5, d6, d7, d8, d9⟩ := cells10 HX10.out
        obtain ⟨N, hN⟩ : ∃ N, z.bs.length = N := ⟨_, rfl⟩
        have X := bytes_ok z HZ.out HZB.out (some ⟨b9, 0, none⟩) z.b.length W10 HRZ10.out
        rw [hN] at X
        have HX := Lib.hid X
        have HNN := Lib.hid hN
        clear X hN
        go_wp2_with fail
        refine HX.out.mono ?_
        rintro e w11 ⟨b11, rfl, _, hy11, hl11⟩
        have HB11 := Lib.hid (ibelow_on HB10.out HW.out hl11)
        have XA : Hid (Calls Tryd.prog 20 #[.slice (some ⟨b11, 0, none⟩) N N, .slice A2 ls.length c2] w11 fun e w' => e = .returned (.bool true) ∧ Below w11.heap.size w11 w') := by
          have h := alike_near (some ⟨b11, 0, none⟩) A2 z.bs.length c2 z.bs ls w11 hy11.rd (HRL10.out.below hl11) HZL.out (by have := z.bs_ge; omega) (by have := H2.out.2.1; omega) HZN.out
          rw [HNN.out] at h
          exact h
        have nl : (N : Int) ≤ (ls.length : Int) := by have := HZL.out; have := HNN.out; omega
        clear hy11 hl11 HX d0 d1 d2 d3 d4 d5 d6 d7 d8 d9 HB10 HRL10 HRZ10
        go_wp2_with fail
        refine XA.out.mono ?_
        rintro e w12 ⟨rfl, hl12⟩
        have HB12 := Lib.hid (ibelow_on HB11.out HW.out hl12)
        clear hl12 XA HB11 nl
        go_wp2_with fail
        go_ret
        exact ⟨rfl, by rw [HW.out]; exact HB12.out⟩
end Go.Proofs.YteglhfhkombkhaaDoor
