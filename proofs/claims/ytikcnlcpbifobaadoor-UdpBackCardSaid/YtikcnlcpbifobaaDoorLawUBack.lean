/-
  What is proved: UdpBack' function by contract: it returns true and leaves all older memory as it was.
  Conditions: errors.errorType holds the handle of the type error; the datagrams' numbers fit their types.
-/
import Derived.Test.YtikcnlcpbifobaaDoorUBk
import Derived.Test.YtikcnlcpbifobaaDoorLawUSizes
namespace Go.Proofs.YtikcnlcpbifobaaDoor
open Go.RowKit

set_option maxRecDepth 100000 in
set_option maxHeartbeats 40000000 in
theorem udpBack_any (d0 : Dg) (A0 : Option Addr) (c0 : Nat) (n1 : Nat) (n2 : Nat) (A3 : Option Addr) (c3 : Nat) (l3 : List UInt8) (n4 : Int) (w : World) (hg : Hdl w) (hf0 : d0.Fit) (hr0 : Rd w (.slice A0 d0.b.length c0) d0.b) (_hc0 : c0 ≤ 9223372036854775807)
    (h1 : n1 < 4294967296) (h2 : n2 < 4294967296) (hr3 : Rd w (.slice A3 l3.length c3) l3) (_hc3 : c3 ≤ 9223372036854775807) (_h4 : -9223372036854775808 ≤ n4) (_h5 : n4 ≤ 9223372036854775807) :
    Calls Tryd.prog 4 #[d0.val (.slice A0 d0.b.length c0), .int .u32 (n1 : Int), .int .u32 (n2 : Int), .slice A3 l3.length c3, .int .i64 n4] w fun e w' => e = .returned (.bool true) ∧ Below w.heap.size w w' := by
  have b2 := below_al (Below.refl w.heap.size w) (d0.obj (.slice A0 d0.b.length c0))
  have HS := Lib.hid (uShown_any _ (hg.below b2))
  have HX0 : Hid (DgAt (w.alloc (d0.obj (.slice A0 d0.b.length c0))) w.heap.size d0.few (.slice A0 d0.b.length c0)) := DgAt.new w d0 (.slice A0 d0.b.length c0)
  have HB := Lib.hid b2
  have HG := Lib.hid hg
  have HRP := Lib.hid (Dg.few_rd hr0)
  have HLEN0 := Lib.hid d0.few_len
  have HCAP0 := Lib.hid (Dg.few_cap hr0)
  have HIP := Lib.hid (Dg.few_in hf0)
  have HNP := Lib.hid d0.few_n
  have HOK : Hid (d0.few.Ok n1 n2) := ⟨HIP.out, by have := HNP.out; omega, h1, h2⟩
  have HNN : Hid (n1 < 4294967296 ∧ n2 < 4294967296) := ⟨h1, h2⟩
  -- what stands behind
  obtain ⟨ms, hms⟩ : ∃ ms, l3.take 50 = ms := ⟨_, rfl⟩
  have hml : ms.length = min 50 l3.length := by rw [← hms, List.length_take]
  have HR1 : Hid (Rd w (.slice A3 ms.length c3) ms) := by
    have k := hr3.frontAt (K := ms.length) (by omega)
    have e : l3.take ms.length = ms := by
      rw [hml, ← hms]
      by_cases hl : l3.length ≤ 50
      · rw [Nat.min_eq_right hl, List.take_of_length_le (Nat.le_refl _), List.take_of_length_le hl]
      · rw [Nat.min_eq_left (by omega)]
    rwa [e] at k
  have hlc : l3.length ≤ c3 := by
    obtain ⟨A', c', e, hc, _⟩ := hr3
    simp only [Value.slice.injEq] at e
    rw [e.2.2]
    exact hc
  have HMIN1 : Hid (∀ W, _) := fun W => min_run (P := Tryd.prog) #[3, 3] 3 (l3.length : Int) 50 (ms.length : Int) (by omega) W
  have HML : Hid (ms.length ≤ c3 ∧ ms.length ≤ 50) := ⟨by omega, by omega⟩
  clear hg b2 hf0 hr0 h1 h2 hr3 hms hml hlc
  generalize l3.length = n3 at *
  rw [Dg.val_lit]
  have e0 : d0.src = d0.few.src ∧ d0.dst = d0.few.dst ∧ d0.plain = d0.few.plain := ⟨rfl, rfl, rfl⟩
  unfold Dg.obj at HS
  generalize hW : (w.alloc (d0.obj (.slice A0 d0.b.length c0))) = W0 at HX0 HB
  unfold Dg.obj at hW
  rw [hW] at HS
  rw [e0.1, e0.2.1, e0.2.2] at hW ⊢
  clear e0
  generalize d0.few = p at *
  go_enter Tryd.func4, Tryd.ntmps4
  go_upto_region 1 with fail
  (try rw [hW])
  clear hW
  go_wp2_with fail
  refine HS.out.mono ?_
  rintro e w1 ⟨rfl, hl⟩
  have HX0N := Lib.hid (HX0.out.below hl)
  have HBN := Lib.hid (below_to HB.out hl HB.out.size)
  clear HS hl HB HX0
  have HB := HBN
  have HX0 := HX0N
  clear HBN HX0N
  go_upto_region 2 with fail
  obtain ⟨M0, hM0⟩ : ∃ M : Int, ((d0.b.length : Nat) : Int) = M := ⟨_, rfl⟩
  obtain ⟨K0, hK0⟩ : ∃ K : Int, ((p.b.length : Nat) : Int) = K := ⟨_, rfl⟩
  have hx0 : (p.b.length : Nat) = min d0.b.length 3000 := HLEN0.out
  have hmin0 : ∀ W, (Builtin.min_ #[3, 3] 3 #[.int .i64 M0, .int .i64 3000]).run Tryd.prog W = .ok (.int .i64 K0) W := fun W => min_run (P := Tryd.prog) #[3, 3] 3 M0 3000 K0 (by omega) W
  have i1 : 0 ≤ K0 := by omega
  have i2 : ¬ K0 < 0 := by omega
  have i3 : K0 ≤ (c0 : Int) := by have := HCAP0.out; omega
  have i4 : K0.toNat = p.b.length := by omega
  clear hx0 hK0
  have k3 := HX0.out.cells.2.2.2
  have z3 := HX0.out.free 3
  go_upto_region 3 with fail
  have HXN : Hid (DgAt (w1.setCell ⟨w.heap.size, 3, none⟩ (.slice A0 p.b.length c0)) w.heap.size p (.slice A0 p.b.length c0)) := HX0.out.set3 _
  have HBN : Hid (Below w.heap.size w (w1.setCell ⟨w.heap.size, 3, none⟩ (.slice A0 p.b.length c0))) := HB.out.setCell (p := ⟨w.heap.size, 3, none⟩) (Nat.le_refl _) _
  clear hM0 hmin0 i1 i2 i3 i4 k3 z3 HX0 HB
  generalize w1.setCell ⟨w.heap.size, 3, none⟩ (.slice A0 p.b.length c0) = W2 at *
  have HX0 := HXN
  have HB := HBN
  clear HXN HBN
  obtain ⟨k0, k1, k2, k3⟩ := HX0.out.cells
  go_wp2_with fail
  refine (uBytes_ok p HIP.out (by have := HNP.out; omega) A0 c0 n1 n2 _ (HRP.out.below HB.out)).mono ?_
  rintro e w4 ⟨b, rfl, _, hy, hl⟩
  have HY0 := Lib.hid ((show BAt w4 b (p.bs n1 n2) from hy))
  have HX0N := Lib.hid (HX0.out.below hl)
  have HBN := Lib.hid (below_to HB.out hl HB.out.size)
  clear hl HB HX0 hy k0 k1 k2 k3
  have HB := HBN
  have HX0 := HX0N
  clear HBN HX0N
  generalize hm : p.n = m at *
  have HM := Lib.hid hm
  clear hm
  have HPL : Hid (m = 8 + p.b.length) := HM.out.symm
  have HGW := Lib.hid (HG.out.below HB.out)
  have HBS : Hid (w.heap.size ≤ w4.heap.size ∧ w.heap.size < w4.heap.size) := ⟨HB.out.size, HX0.out.lt⟩
  have k3 := HX0.out.cells.2.2.2
  obtain ⟨PL, hPL⟩ : ∃ PL : Int, ((p.b.length : Nat) : Int) = PL := ⟨_, rfl⟩
  obtain ⟨MI, hMI⟩ : ∃ MI : Int, ((m : Nat) : Int) = MI := ⟨_, rfl⟩
  have HMI : Hid ((m : Int) = MI) := hMI
  have hw8 : IntKind.i64.wrap (8 + PL) = MI := by
    have h1 := HPL.out
    have h2 := HNP.out
    rw [IntKind.wrap_i64]
    omega
  go_upto_region 6 with fail
  clear hw8 hPL k3
  generalize hn : w.heap.size = n at *
  have HW := Lib.hid hn
  clear hn
  clear hMI
  go_cut [14, 15] (fun s14 s15 wx => ∃ k b', s14 = .pointer (some ⟨k, 0, none⟩) ∧ s15 = .nilIface ∧ DgAt wx k p (.slice (some ⟨b', 0, none⟩) p.b.length p.b.length) ∧ BAt wx b' p.b ∧ Below w4.heap.size w4 wx)
  case first =>
    have M0a := Lib.hid (Uk.first (Below.refl w4.heap.size w4)).drew
    have M0b := Lib.hid (Uk.first (Below.refl w4.heap.size w4)).alloc.drew
    have M0c := Lib.hid (Uk.firstX (Below.refl w4.heap.size w4)).drew
    have HBL : Hid ((p.bs n1 n2).length = m) := by show _ = _; rw [p.bs_len, HPL.out]
    have SR : Hid (∀ W', Below w4.heap.size w4 W' → Rd W' (.slice (some ⟨b, 0, none⟩) m m) (p.bs n1 n2)) := fun W' h => by
      have h2 := (HY0.out.below h).rd
      rw [HBL.out] at h2
      exact h2
    have MR : Hid (∀ W', Below w4.heap.size w4 W' → Rd W' (.slice A3 ms.length c3) ms) := fun W' h => HR1.out.below (by rw [HW.out]; exact below_to HB.out h (by rw [← HW.out]; exact HB.out.size))
    have HL0 : Hid (([] : List UInt8).length + (p.bs n1 n2).length ≤ 1099511627776) := by show _ ≤ _; have h1 := HBL.out; have h2 := HNP.out; simp only [List.length_nil]; omega
    have HL1 : Hid ((p.bs n1 n2).length + ms.length ≤ 1099511627776) := by show _ ≤ _; have h1 := HBL.out; have h2 := HNP.out; have h3 := HML.out; omega
    have HT : Hid (m + ms.length = (p.bs n1 n2 ++ ms).length) := by show _ = _; rw [List.length_append, HBL.out]
    have HQM : Hid (m = ([] ++ p.bs n1 n2).length) := by show _ = _; rw [List.nil_append, HBL.out]
    obtain ⟨T, hT⟩ : ∃ T, m + ms.length = T := ⟨_, rfl⟩
    have HTT := Lib.hid hT
    have XP : Hid (∀ (W' : World) (g c : Nat) (kx : Option Nat), Uk w4 W' g c (p.bs n1 n2 ++ ms) kx → Calls Tryd.prog 9 #[.slice (some ⟨g, 0, none⟩) T c, .int .u32 (n1 : Int), .int .u32 (n2 : Int)] W' fun e w' => ∃ b, e = .returned (.tuple #[.agg #[.int .u16 p.src, .int .u16 p.dst, .bool p.plain, .slice (some ⟨b, 0, none⟩) p.b.length p.b.length], .nilIface]) ∧ W'.heap.size ≤ b ∧ BAt w' b p.b ∧ Below W'.heap.size W' w') := fun W' g c kx h =>
      uParse_back HOK.out n1 n2 HNN.out.1 HNN.out.2 ms (.inr rfl) _ c T (by rw [← hT, HM.out]) W' (by rw [← hT, HT.out]; exact h.mine.rd) (by have h1 := HNP.out; have h2 := HML.out; rw [HM.out]; omega)
    rw [World.size_alloc] at M0b
    unfold noDgObj at M0b M0c
    clear hT
    have hmin := HMIN1.out
    have hmc : ms.length ≤ c3 := HML.out.1
    have hmc2 : ¬ c3 < ms.length := by omega
    have hmc3 : (ms.length : Int) ≤ (c3 : Int) := by omega
    refine wp_region_any (by kernel_rfl) ?_
    change wpAny _ _ _ _ _ _ _ (World.drew _)
    refine wpAny_take (i := 1) (oi := ⟨some 49, _, _, _, _, _⟩) (v := (.slice (some ⟨b, 0, none⟩) m m)) rfl (by kernel_rfl) (by kernel_rfl) (by kernel_rfl) (fun _ _ _ h => h) (Or.inl ⟨by rfl, ?_⟩) ?_
    · intro W
      go_simp
    try simp only [Act.put, List.setIfInBounds_toArray, List.set_cons_zero, List.set_cons_succ]
    refine wpAny_take (i := 3) (oi := ⟨some 51, _, _, _, _, _⟩) (v := (.slice A3 n3 c3)) rfl (by kernel_rfl) (by kernel_rfl) (by kernel_rfl) (fun _ _ _ h => h) (Or.inl ⟨by rfl, ?_⟩) ?_
    · intro W
      go_simp
    try simp only [Act.put, List.setIfInBounds_toArray, List.set_cons_zero, List.set_cons_succ]
    refine wpAny_take (i := 4) (oi := ⟨some 52, _, _, _, _, _⟩) (v := (.slice A3 n3 c3)) rfl (by kernel_rfl) (by kernel_rfl) (by kernel_rfl) (fun _ _ _ h => h) (Or.inl ⟨by rfl, ?_⟩) ?_
    · intro W
      go_simp
    try simp only [Act.put, List.setIfInBounds_toArray, List.set_cons_zero, List.set_cons_succ]
    refine wpAny_take (i := 5) (oi := ⟨some 53, _, _, _, _, _⟩) (v := (.int .i64 (n3 : Int))) rfl (by kernel_rfl) (by kernel_rfl) (by kernel_rfl) (fun _ _ _ h => h) (Or.inl ⟨by rfl, ?_⟩) ?_
    · intro W
      go_simp
    try simp only [Act.put, List.setIfInBounds_toArray, List.set_cons_zero, List.set_cons_succ]
    refine wpAny_take (i := 6) (oi := ⟨some 54, _, _, _, _, _⟩) (v := (.int .i64 (ms.length : Int))) rfl (by kernel_rfl) (by kernel_rfl) (by kernel_rfl) (fun _ _ _ h => h) (Or.inl ⟨by rfl, ?_⟩) ?_
    · intro W
      go_simp
    try simp only [Act.put, List.setIfInBounds_toArray, List.set_cons_zero, List.set_cons_succ]
    refine wpAny_take (i := 7) (oi := ⟨some 55, _, _, _, _, _⟩) (v := (.slice A3 ms.length c3)) rfl (by kernel_rfl) (by kernel_rfl) (by kernel_rfl) (fun _ _ _ h => h) (Or.inl ⟨by rfl, ?_⟩) ?_
    · intro W
      go_simp
    try simp only [Act.put, List.setIfInBounds_toArray, List.set_cons_zero, List.set_cons_succ]
    refine wpAny_take (i := 9) (oi := ⟨some 57, _, _, _, _, _⟩) (v := (.int .u32 (n1 : Int))) rfl (by kernel_rfl) (by kernel_rfl) (by kernel_rfl) (fun _ _ _ h => h) (Or.inl ⟨by rfl, ?_⟩) ?_
    · intro W
      go_simp
    try simp only [Act.put, List.setIfInBounds_toArray, List.set_cons_zero, List.set_cons_succ]
    refine wpAny_take (i := 10) (oi := ⟨some 58, _, _, _, _, _⟩) (v := (.int .u32 (n2 : Int))) rfl (by kernel_rfl) (by kernel_rfl) (by kernel_rfl) (fun _ _ _ h => h) (Or.inl ⟨by rfl, ?_⟩) ?_
    · intro W
      go_simp
    try simp only [Act.put, List.setIfInBounds_toArray, List.set_cons_zero, List.set_cons_succ]
    refine wpAny_ready (rs := [0, 15]) (by kernel_rfl) (by simp) ?_
    refine AllReady.cons (o := ⟨some 48, _, _, _, _, _⟩) rfl (fun K hK => ?_) ?_
    · go_simp
      refine hK _ _ ?_
      clear hK K
      try simp only [Act.put, List.setIfInBounds_toArray, List.set_cons_zero, List.set_cons_succ]
      refine wpAny_ready (rs := [2, 15]) (by kernel_rfl) (by simp) ?_
      refine AllReady.cons (o := ⟨some 50, _, _, _, _, _⟩) rfl (fun K hK => ?_) ?_
      · refine step_append_uk rfl (.tmp 48) (.tmp 49) rfl rfl _ _ [] (p.bs n1 n2) _ 0 m rfl rfl rfl ⟨M0a.out, SR.out _ M0a.out.mine.old⟩ HL0.out HQM.out 50 rfl ?_
        intro g1 d1 w6 h1
        have M1 := Lib.hid (show Uk w4 w6 g1 d1 (p.bs n1 n2) _ from h1)
        clear h1
        refine hK _ _ ?_
        clear hK K
        try simp only [Act.put, List.setIfInBounds_toArray, List.set_cons_zero, List.set_cons_succ]
        refine wpAny_ready (rs := [8, 15]) (by kernel_rfl) (by simp) ?_
        refine AllReady.cons (o := ⟨some 56, _, _, _, _, _⟩) rfl (fun K hK => ?_) ?_
        · refine step_append_uk rfl (.tmp 50) (.tmp 55) rfl rfl _ _ (p.bs n1 n2) ms _ m T rfl HBL.out.symm rfl ⟨M1.out, MR.out _ M1.out.mine.old⟩ HL1.out (HTT.out.symm.trans HT.out) 56 rfl ?_
          intro g2 d2 w7 h2
          have M2 := Lib.hid h2
          clear h2
          refine hK _ _ ?_
          clear hK K
          try simp only [Act.put, List.setIfInBounds_toArray, List.set_cons_zero, List.set_cons_succ]
          refine wpAny_ready (rs := [11, 15]) (by kernel_rfl) (by simp) ?_
          refine AllReady.cons (o := ⟨some 59, _, _, _, _, _⟩) rfl (fun K hK => ?_) ?_
          · have XA := Lib.hid (XP.out _ _ _ _ M2.out)
            have hk := Lib.hid hK
            clear hK
            go_simp
            go_at_call 9
            refine XA.out.mono ?_
            rintro e w8 ⟨b3, rfl, hb3, hy3, hl3⟩
            have M3 := Lib.hid (M2.out.below hl3)
            have HY8 := Lib.hid hy3
            have HB8 := Lib.hid hb3
            clear hl3 hy3 hb3 XA
            dsimp only
            refine hk.out _ _ ?_
            clear hk K
            try simp only [Act.put, List.setIfInBounds_toArray, List.set_cons_zero, List.set_cons_succ]
            refine wpAny_take (i := 12) (oi := ⟨some 47, _, _, _, _, _⟩) (v := (.tuple #[.agg #[.int .u16 p.src, .int .u16 p.dst, .bool p.plain, .slice (some ⟨b3, 0, none⟩) p.b.length p.b.length], .nilIface])) rfl (by kernel_rfl) (by kernel_rfl) (by kernel_rfl) (fun _ _ _ h => h) (Or.inl ⟨by rfl, ?_⟩) ?_
            · intro W
              go_simp
            try simp only [Act.put, List.setIfInBounds_toArray, List.set_cons_zero, List.set_cons_succ]
            refine wpAny_take (i := 13) (oi := ⟨some 60, _, _, _, _, _⟩) (v := (.agg #[.int .u16 p.src, .int .u16 p.dst, .bool p.plain, .slice (some ⟨b3, 0, none⟩) p.b.length p.b.length])) rfl (by kernel_rfl) (by kernel_rfl) (by kernel_rfl) (fun _ _ _ h => h) (Or.inl ⟨by rfl, ?_⟩) ?_
            · intro W
              go_simp
            try simp only [Act.put, List.setIfInBounds_toArray, List.set_cons_zero, List.set_cons_succ]
            refine wpAny_take (i := 14) (oi := ⟨some 61, _, _, _, _, _⟩) (v := .nilIface) rfl (by kernel_rfl) (by kernel_rfl) (by kernel_rfl) (fun _ _ _ h => h) (Or.inl ⟨by rfl, ?_⟩) ?_
            · intro W
              go_simp
            try simp only [Act.put, List.setIfInBounds_toArray, List.set_cons_zero, List.set_cons_succ]
            refine wpAny_ready (rs := [15]) (by kernel_rfl) (by simp) ?_
            refine AllReady.cons (o := ⟨some 14, _, _, _, _, _⟩) rfl (fun K hK => ?_) ?_
            · go_simp
              refine hK _ _ ?_
              clear hK K
              try simp only [Act.put, List.setIfInBounds_toArray, List.set_cons_zero, List.set_cons_succ]
              refine wpAny_ready (rs := [16]) (by kernel_rfl) (by simp) ?_
              refine AllReady.cons (o := ⟨none, _, _, _, _, _⟩) rfl (fun K hK => ?_) ?_
              · refine step_store_dg rfl (.tmp 14) (.tmp 60) rfl w8.heap.size p (some ⟨b3, 0, none⟩) p.b.length p.b.length rfl rfl (heap_alloc_new w8 noDgObj) rfl ?_
                refine hK _ _ ?_
                clear hK K
                try simp only [Act.put]
                refine wpAny_take (i := 17) (oi := ⟨some 15, _, _, _, _, _⟩) (v := .nilIface) rfl (by kernel_rfl) (by kernel_rfl) (by kernel_rfl) (fun _ _ _ h => h) (Or.inl ⟨by rfl, ?_⟩) ?_
                · intro W
                  go_simp
                try simp only [Act.put, List.setIfInBounds_toArray, List.set_cons_zero, List.set_cons_succ]
                refine wpAny_done (by kernel_rfl) ?_ _
                go_wp2_with fail
                go_meet
                exact ⟨_, _, rfl, rfl, dg_stored (heap_alloc_new w8 noDgObj) p _, (setRow_other _ _ _ (Nat.ne_of_lt HY8.out.lt)).trans (HY8.out.below (below_al (Below.refl _ _) _)), ubelow_row (below_al M3.out.mine.old _) M3.out.mine.old.size _⟩
              exact AllReady.nil
            exact AllReady.nil
          refine AllReady.cons (o := ⟨some 14, _, _, _, _, _⟩) rfl (fun K hK => ?_) ?_
          · go_simp
            refine hK _ _ ?_
            clear hK K
            try simp only [Act.put, List.setIfInBounds_toArray, List.set_cons_zero, List.set_cons_succ]
            refine wpAny_ready (rs := [11]) (by kernel_rfl) (by simp) ?_
            refine AllReady.cons (o := ⟨some 59, _, _, _, _, _⟩) rfl (fun K hK => ?_) ?_
            · have XA := Lib.hid (XP.out _ _ _ _ M2.out.alloc)
              unfold noDgObj at XA
              have hk := Lib.hid hK
              clear hK
              go_simp
              go_at_call 9
              refine XA.out.mono ?_
              rintro e w8 ⟨b3, rfl, hb3, hy3, hl3⟩
              have M3 := Lib.hid (M2.out.alloc.below hl3)
              have HY8 := Lib.hid hy3
              have HB8 := Lib.hid hb3
              clear hl3 hy3 hb3 XA
              dsimp only
              refine hk.out _ _ ?_
              clear hk K
              try simp only [Act.put, List.setIfInBounds_toArray, List.set_cons_zero, List.set_cons_succ]
              refine wpAny_take (i := 12) (oi := ⟨some 47, _, _, _, _, _⟩) (v := (.tuple #[.agg #[.int .u16 p.src, .int .u16 p.dst, .bool p.plain, .slice (some ⟨b3, 0, none⟩) p.b.length p.b.length], .nilIface])) rfl (by kernel_rfl) (by kernel_rfl) (by kernel_rfl) (fun _ _ _ h => h) (Or.inl ⟨by rfl, ?_⟩) ?_
              · intro W
                go_simp
              try simp only [Act.put, List.setIfInBounds_toArray, List.set_cons_zero, List.set_cons_succ]
              refine wpAny_take (i := 13) (oi := ⟨some 60, _, _, _, _, _⟩) (v := (.agg #[.int .u16 p.src, .int .u16 p.dst, .bool p.plain, .slice (some ⟨b3, 0, none⟩) p.b.length p.b.length])) rfl (by kernel_rfl) (by kernel_rfl) (by kernel_rfl) (fun _ _ _ h => h) (Or.inl ⟨by rfl, ?_⟩) ?_
              · intro W
                go_simp
              try simp only [Act.put, List.setIfInBounds_toArray, List.set_cons_zero, List.set_cons_succ]
              refine wpAny_take (i := 14) (oi := ⟨some 61, _, _, _, _, _⟩) (v := .nilIface) rfl (by kernel_rfl) (by kernel_rfl) (by kernel_rfl) (fun _ _ _ h => h) (Or.inl ⟨by rfl, ?_⟩) ?_
              · intro W
                go_simp
              try simp only [Act.put, List.setIfInBounds_toArray, List.set_cons_zero, List.set_cons_succ]
              refine wpAny_ready (rs := [16]) (by kernel_rfl) (by simp) ?_
              refine AllReady.cons (o := ⟨none, _, _, _, _, _⟩) rfl (fun K hK => ?_) ?_
              · refine step_store_dg rfl (.tmp 14) (.tmp 60) rfl _ p (some ⟨b3, 0, none⟩) p.b.length p.b.length rfl rfl (M3.out.x _ rfl).1 rfl ?_
                refine hK _ _ ?_
                clear hK K
                try simp only [Act.put]
                refine wpAny_take (i := 17) (oi := ⟨some 15, _, _, _, _, _⟩) (v := .nilIface) rfl (by kernel_rfl) (by kernel_rfl) (by kernel_rfl) (fun _ _ _ h => h) (Or.inl ⟨by rfl, ?_⟩) ?_
                · intro W
                  go_simp
                try simp only [Act.put, List.setIfInBounds_toArray, List.set_cons_zero, List.set_cons_succ]
                refine wpAny_done (by kernel_rfl) ?_ _
                go_wp2_with fail
                go_meet
                obtain ⟨x1, x2, x3⟩ := M3.out.x _ rfl
                have kl := HB8.out
                rw [World.size_alloc] at kl
                exact ⟨_, _, rfl, rfl, dg_stored x1 p _, (setRow_other _ _ _ (by omega)).trans HY8.out, ubelow_row M3.out.mine.old x3 _⟩
              exact AllReady.nil
            exact AllReady.nil
          exact AllReady.nil
        refine AllReady.cons (o := ⟨some 14, _, _, _, _, _⟩) rfl (fun K hK => ?_) ?_
        · go_simp
          refine hK _ _ ?_
          clear hK K
          try simp only [Act.put, List.setIfInBounds_toArray, List.set_cons_zero, List.set_cons_succ]
          refine wpAny_ready (rs := [8]) (by kernel_rfl) (by simp) ?_
          refine AllReady.cons (o := ⟨some 56, _, _, _, _, _⟩) rfl (fun K hK => ?_) ?_
          · refine step_append_uk rfl (.tmp 50) (.tmp 55) rfl rfl _ _ (p.bs n1 n2) ms _ m T rfl HBL.out.symm rfl ⟨M1.out.alloc, MR.out _ M1.out.alloc.mine.old⟩ HL1.out (HTT.out.symm.trans HT.out) 56 rfl ?_
            intro g2 d2 w7 h2
            have M2 := Lib.hid h2
            clear h2
            refine hK _ _ ?_
            clear hK K
            try simp only [Act.put, List.setIfInBounds_toArray, List.set_cons_zero, List.set_cons_succ]
            refine wpAny_ready (rs := [11]) (by kernel_rfl) (by simp) ?_
            refine AllReady.cons (o := ⟨some 59, _, _, _, _, _⟩) rfl (fun K hK => ?_) ?_
            · have XA := Lib.hid (XP.out _ _ _ _ M2.out)
              have hk := Lib.hid hK
              clear hK
              go_simp
              go_at_call 9
              refine XA.out.mono ?_
              rintro e w8 ⟨b3, rfl, hb3, hy3, hl3⟩
              have M3 := Lib.hid (M2.out.below hl3)
              have HY8 := Lib.hid hy3
              have HB8 := Lib.hid hb3
              clear hl3 hy3 hb3 XA
              dsimp only
              refine hk.out _ _ ?_
              clear hk K
              try simp only [Act.put, List.setIfInBounds_toArray, List.set_cons_zero, List.set_cons_succ]
              refine wpAny_take (i := 12) (oi := ⟨some 47, _, _, _, _, _⟩) (v := (.tuple #[.agg #[.int .u16 p.src, .int .u16 p.dst, .bool p.plain, .slice (some ⟨b3, 0, none⟩) p.b.length p.b.length], .nilIface])) rfl (by kernel_rfl) (by kernel_rfl) (by kernel_rfl) (fun _ _ _ h => h) (Or.inl ⟨by rfl, ?_⟩) ?_
              · intro W
                go_simp
              try simp only [Act.put, List.setIfInBounds_toArray, List.set_cons_zero, List.set_cons_succ]
              refine wpAny_take (i := 13) (oi := ⟨some 60, _, _, _, _, _⟩) (v := (.agg #[.int .u16 p.src, .int .u16 p.dst, .bool p.plain, .slice (some ⟨b3, 0, none⟩) p.b.length p.b.length])) rfl (by kernel_rfl) (by kernel_rfl) (by kernel_rfl) (fun _ _ _ h => h) (Or.inl ⟨by rfl, ?_⟩) ?_
              · intro W
                go_simp
              try simp only [Act.put, List.setIfInBounds_toArray, List.set_cons_zero, List.set_cons_succ]
              refine wpAny_take (i := 14) (oi := ⟨some 61, _, _, _, _, _⟩) (v := .nilIface) rfl (by kernel_rfl) (by kernel_rfl) (by kernel_rfl) (fun _ _ _ h => h) (Or.inl ⟨by rfl, ?_⟩) ?_
              · intro W
                go_simp
              try simp only [Act.put, List.setIfInBounds_toArray, List.set_cons_zero, List.set_cons_succ]
              refine wpAny_ready (rs := [16]) (by kernel_rfl) (by simp) ?_
              refine AllReady.cons (o := ⟨none, _, _, _, _, _⟩) rfl (fun K hK => ?_) ?_
              · refine step_store_dg rfl (.tmp 14) (.tmp 60) rfl _ p (some ⟨b3, 0, none⟩) p.b.length p.b.length rfl rfl (M3.out.x _ rfl).1 rfl ?_
                refine hK _ _ ?_
                clear hK K
                try simp only [Act.put]
                refine wpAny_take (i := 17) (oi := ⟨some 15, _, _, _, _, _⟩) (v := .nilIface) rfl (by kernel_rfl) (by kernel_rfl) (by kernel_rfl) (fun _ _ _ h => h) (Or.inl ⟨by rfl, ?_⟩) ?_
                · intro W
                  go_simp
                try simp only [Act.put, List.setIfInBounds_toArray, List.set_cons_zero, List.set_cons_succ]
                refine wpAny_done (by kernel_rfl) ?_ _
                go_wp2_with fail
                go_meet
                obtain ⟨x1, x2, x3⟩ := M3.out.x _ rfl
                have kl := Nat.lt_of_lt_of_le (Array.getElem?_eq_some_iff.1 (M2.out.x _ rfl).1).1 HB8.out
                exact ⟨_, _, rfl, rfl, dg_stored x1 p _, (setRow_other _ _ _ (by omega)).trans HY8.out, ubelow_row M3.out.mine.old x3 _⟩
              exact AllReady.nil
            exact AllReady.nil
          exact AllReady.nil
        exact AllReady.nil
      refine AllReady.cons (o := ⟨some 14, _, _, _, _, _⟩) rfl (fun K hK => ?_) ?_
      · go_simp
        refine hK _ _ ?_
        clear hK K
        try simp only [Act.put, List.setIfInBounds_toArray, List.set_cons_zero, List.set_cons_succ]
        refine wpAny_ready (rs := [2]) (by kernel_rfl) (by simp) ?_
        refine AllReady.cons (o := ⟨some 50, _, _, _, _, _⟩) rfl (fun K hK => ?_) ?_
        · refine step_append_uk rfl (.tmp 48) (.tmp 49) rfl rfl _ _ [] (p.bs n1 n2) _ 0 m rfl rfl rfl ⟨M0b.out, SR.out _ M0b.out.mine.old⟩ HL0.out HQM.out 50 rfl ?_
          intro g1 d1 w6 h1
          have M1 := Lib.hid (show Uk w4 w6 g1 d1 (p.bs n1 n2) _ from h1)
          clear h1
          refine hK _ _ ?_
          clear hK K
          try simp only [Act.put, List.setIfInBounds_toArray, List.set_cons_zero, List.set_cons_succ]
          refine wpAny_ready (rs := [8]) (by kernel_rfl) (by simp) ?_
          refine AllReady.cons (o := ⟨some 56, _, _, _, _, _⟩) rfl (fun K hK => ?_) ?_
          · refine step_append_uk rfl (.tmp 50) (.tmp 55) rfl rfl _ _ (p.bs n1 n2) ms _ m T rfl HBL.out.symm rfl ⟨M1.out, MR.out _ M1.out.mine.old⟩ HL1.out (HTT.out.symm.trans HT.out) 56 rfl ?_
            intro g2 d2 w7 h2
            have M2 := Lib.hid h2
            clear h2
            refine hK _ _ ?_
            clear hK K
            try simp only [Act.put, List.setIfInBounds_toArray, List.set_cons_zero, List.set_cons_succ]
            refine wpAny_ready (rs := [11]) (by kernel_rfl) (by simp) ?_
            refine AllReady.cons (o := ⟨some 59, _, _, _, _, _⟩) rfl (fun K hK => ?_) ?_
            · have XA := Lib.hid (XP.out _ _ _ _ M2.out)
              have hk := Lib.hid hK
              clear hK
              go_simp
              go_at_call 9
              refine XA.out.mono ?_
              rintro e w8 ⟨b3, rfl, hb3, hy3, hl3⟩
              have M3 := Lib.hid (M2.out.below hl3)
              have HY8 := Lib.hid hy3
              have HB8 := Lib.hid hb3
              clear hl3 hy3 hb3 XA
              dsimp only
              refine hk.out _ _ ?_
              clear hk K
              try simp only [Act.put, List.setIfInBounds_toArray, List.set_cons_zero, List.set_cons_succ]
              refine wpAny_take (i := 12) (oi := ⟨some 47, _, _, _, _, _⟩) (v := (.tuple #[.agg #[.int .u16 p.src, .int .u16 p.dst, .bool p.plain, .slice (some ⟨b3, 0, none⟩) p.b.length p.b.length], .nilIface])) rfl (by kernel_rfl) (by kernel_rfl) (by kernel_rfl) (fun _ _ _ h => h) (Or.inl ⟨by rfl, ?_⟩) ?_
              · intro W
                go_simp
              try simp only [Act.put, List.setIfInBounds_toArray, List.set_cons_zero, List.set_cons_succ]
              refine wpAny_take (i := 13) (oi := ⟨some 60, _, _, _, _, _⟩) (v := (.agg #[.int .u16 p.src, .int .u16 p.dst, .bool p.plain, .slice (some ⟨b3, 0, none⟩) p.b.length p.b.length])) rfl (by kernel_rfl) (by kernel_rfl) (by kernel_rfl) (fun _ _ _ h => h) (Or.inl ⟨by rfl, ?_⟩) ?_
              · intro W
                go_simp
              try simp only [Act.put, List.setIfInBounds_toArray, List.set_cons_zero, List.set_cons_succ]
              refine wpAny_take (i := 14) (oi := ⟨some 61, _, _, _, _, _⟩) (v := .nilIface) rfl (by kernel_rfl) (by kernel_rfl) (by kernel_rfl) (fun _ _ _ h => h) (Or.inl ⟨by rfl, ?_⟩) ?_
              · intro W
                go_simp
              try simp only [Act.put, List.setIfInBounds_toArray, List.set_cons_zero, List.set_cons_succ]
              refine wpAny_ready (rs := [16]) (by kernel_rfl) (by simp) ?_
              refine AllReady.cons (o := ⟨none, _, _, _, _, _⟩) rfl (fun K hK => ?_) ?_
              · refine step_store_dg rfl (.tmp 14) (.tmp 60) rfl _ p (some ⟨b3, 0, none⟩) p.b.length p.b.length rfl rfl (M3.out.x _ rfl).1 rfl ?_
                refine hK _ _ ?_
                clear hK K
                try simp only [Act.put]
                refine wpAny_take (i := 17) (oi := ⟨some 15, _, _, _, _, _⟩) (v := .nilIface) rfl (by kernel_rfl) (by kernel_rfl) (by kernel_rfl) (fun _ _ _ h => h) (Or.inl ⟨by rfl, ?_⟩) ?_
                · intro W
                  go_simp
                try simp only [Act.put, List.setIfInBounds_toArray, List.set_cons_zero, List.set_cons_succ]
                refine wpAny_done (by kernel_rfl) ?_ _
                go_wp2_with fail
                go_meet
                obtain ⟨x1, x2, x3⟩ := M3.out.x _ rfl
                have kl := Nat.lt_of_lt_of_le (Array.getElem?_eq_some_iff.1 (M2.out.x _ rfl).1).1 HB8.out
                exact ⟨_, _, rfl, rfl, dg_stored x1 p _, (setRow_other _ _ _ (by omega)).trans HY8.out, ubelow_row M3.out.mine.old x3 _⟩
              exact AllReady.nil
            exact AllReady.nil
          exact AllReady.nil
        exact AllReady.nil
      exact AllReady.nil
    refine AllReady.cons (o := ⟨some 14, _, _, _, _, _⟩) rfl (fun K hK => ?_) ?_
    · go_simp
      refine hK _ _ ?_
      clear hK K
      try simp only [Act.put, List.setIfInBounds_toArray, List.set_cons_zero, List.set_cons_succ]
      refine wpAny_ready (rs := [0]) (by kernel_rfl) (by simp) ?_
      refine AllReady.cons (o := ⟨some 48, _, _, _, _, _⟩) rfl (fun K hK => ?_) ?_
      · go_simp
        refine hK _ _ ?_
        clear hK K
        try simp only [Act.put, List.setIfInBounds_toArray, List.set_cons_zero, List.set_cons_succ]
        refine wpAny_ready (rs := [2]) (by kernel_rfl) (by simp) ?_
        refine AllReady.cons (o := ⟨some 50, _, _, _, _, _⟩) rfl (fun K hK => ?_) ?_
        · refine step_append_uk rfl (.tmp 48) (.tmp 49) rfl rfl _ _ [] (p.bs n1 n2) _ 0 m rfl rfl rfl ⟨M0c.out, SR.out _ M0c.out.mine.old⟩ HL0.out HQM.out 50 rfl ?_
          intro g1 d1 w6 h1
          have M1 := Lib.hid (show Uk w4 w6 g1 d1 (p.bs n1 n2) _ from h1)
          clear h1
          refine hK _ _ ?_
          clear hK K
          try simp only [Act.put, List.setIfInBounds_toArray, List.set_cons_zero, List.set_cons_succ]
          refine wpAny_ready (rs := [8]) (by kernel_rfl) (by simp) ?_
          refine AllReady.cons (o := ⟨some 56, _, _, _, _, _⟩) rfl (fun K hK => ?_) ?_
          · refine step_append_uk rfl (.tmp 50) (.tmp 55) rfl rfl _ _ (p.bs n1 n2) ms _ m T rfl HBL.out.symm rfl ⟨M1.out, MR.out _ M1.out.mine.old⟩ HL1.out (HTT.out.symm.trans HT.out) 56 rfl ?_
            intro g2 d2 w7 h2
            have M2 := Lib.hid h2
            clear h2
            refine hK _ _ ?_
            clear hK K
            try simp only [Act.put, List.setIfInBounds_toArray, List.set_cons_zero, List.set_cons_succ]
            refine wpAny_ready (rs := [11]) (by kernel_rfl) (by simp) ?_
            refine AllReady.cons (o := ⟨some 59, _, _, _, _, _⟩) rfl (fun K hK => ?_) ?_
            · have XA := Lib.hid (XP.out _ _ _ _ M2.out)
              have hk := Lib.hid hK
              clear hK
              go_simp
              go_at_call 9
              refine XA.out.mono ?_
              rintro e w8 ⟨b3, rfl, hb3, hy3, hl3⟩
              have M3 := Lib.hid (M2.out.below hl3)
              have HY8 := Lib.hid hy3
              have HB8 := Lib.hid hb3
              clear hl3 hy3 hb3 XA
              dsimp only
              refine hk.out _ _ ?_
              clear hk K
              try simp only [Act.put, List.setIfInBounds_toArray, List.set_cons_zero, List.set_cons_succ]
              refine wpAny_take (i := 12) (oi := ⟨some 47, _, _, _, _, _⟩) (v := (.tuple #[.agg #[.int .u16 p.src, .int .u16 p.dst, .bool p.plain, .slice (some ⟨b3, 0, none⟩) p.b.length p.b.length], .nilIface])) rfl (by kernel_rfl) (by kernel_rfl) (by kernel_rfl) (fun _ _ _ h => h) (Or.inl ⟨by rfl, ?_⟩) ?_
              · intro W
                go_simp
              try simp only [Act.put, List.setIfInBounds_toArray, List.set_cons_zero, List.set_cons_succ]
              refine wpAny_take (i := 13) (oi := ⟨some 60, _, _, _, _, _⟩) (v := (.agg #[.int .u16 p.src, .int .u16 p.dst, .bool p.plain, .slice (some ⟨b3, 0, none⟩) p.b.length p.b.length])) rfl (by kernel_rfl) (by kernel_rfl) (by kernel_rfl) (fun _ _ _ h => h) (Or.inl ⟨by rfl, ?_⟩) ?_
              · intro W
                go_simp
              try simp only [Act.put, List.setIfInBounds_toArray, List.set_cons_zero, List.set_cons_succ]
              refine wpAny_take (i := 14) (oi := ⟨some 61, _, _, _, _, _⟩) (v := .nilIface) rfl (by kernel_rfl) (by kernel_rfl) (by kernel_rfl) (fun _ _ _ h => h) (Or.inl ⟨by rfl, ?_⟩) ?_
              · intro W
                go_simp
              try simp only [Act.put, List.setIfInBounds_toArray, List.set_cons_zero, List.set_cons_succ]
              refine wpAny_ready (rs := [16]) (by kernel_rfl) (by simp) ?_
              refine AllReady.cons (o := ⟨none, _, _, _, _, _⟩) rfl (fun K hK => ?_) ?_
              · refine step_store_dg rfl (.tmp 14) (.tmp 60) rfl _ p (some ⟨b3, 0, none⟩) p.b.length p.b.length rfl rfl (M3.out.x _ rfl).1 rfl ?_
                refine hK _ _ ?_
                clear hK K
                try simp only [Act.put]
                refine wpAny_take (i := 17) (oi := ⟨some 15, _, _, _, _, _⟩) (v := .nilIface) rfl (by kernel_rfl) (by kernel_rfl) (by kernel_rfl) (fun _ _ _ h => h) (Or.inl ⟨by rfl, ?_⟩) ?_
                · intro W
                  go_simp
                try simp only [Act.put, List.setIfInBounds_toArray, List.set_cons_zero, List.set_cons_succ]
                refine wpAny_done (by kernel_rfl) ?_ _
                go_wp2_with fail
                go_meet
                obtain ⟨x1, x2, x3⟩ := M3.out.x _ rfl
                have kl := Nat.lt_of_lt_of_le (Array.getElem?_eq_some_iff.1 (M2.out.x _ rfl).1).1 HB8.out
                exact ⟨_, _, rfl, rfl, dg_stored x1 p _, (setRow_other _ _ _ (by omega)).trans HY8.out, ubelow_row M3.out.mine.old x3 _⟩
              exact AllReady.nil
            exact AllReady.nil
          exact AllReady.nil
        exact AllReady.nil
      exact AllReady.nil
    exact AllReady.nil
  obtain ⟨k6, b6, rfl, rfl, hv, ho, hl⟩ := hcut
  have HV := Lib.hid hv
  have HO := Lib.hid ho
  have HXN := Lib.hid (HX0.out.below hl)
  have HYN := Lib.hid (HY0.out.below hl)
  have HBN := Lib.hid (below_to HB.out hl (by rw [← HW.out]; exact HB.out.size))
  clear hv ho hl HX0 HY0 HB HMIN1 HML HR1
  have HX0 := HXN
  have HY0 := HYN
  have HB := HBN
  clear HXN HYN HBN
  generalize wc = w6 at *
  have HNS6 : Hid (n ≤ w6.heap.size) := by rw [← HW.out]; exact HB.out.size
  go_upto_region 7 with fail
  have X7 : Hid (Calls Tryd.prog 9 #[.slice (some ⟨b, 0, none⟩) m m, .int .u32 (n2 : Int), .int .u32 (n1 : Int)] w6 (PDgTold p w6)) := by
    have hr := HY0.out.rd
    rw [p.bs_len, ← HPL.out] at hr
    exact uParse_back HOK.out n2 n1 HNN.out.2 HNN.out.1 [] (.inr (by omega)) (some ⟨b, 0, none⟩) m m (by rw [HM.out]; rfl) w6 (by rw [List.append_nil]; exact hr) (by have h1 := HNP.out; have h2 := HM.out; simp only [List.length_nil]; omega)
  unfold PDgTold at X7
  go_wp2_with fail
  refine X7.out.mono ?_
  rintro e w7 ⟨b7, rfl, _, hbo, hl⟩
  have b8 := below_al (Below.refl w7.heap.size w7) (.cells #[.int .u16 p.src, .int .u16 p.dst, .bool p.plain, .slice (some ⟨b7, 0, none⟩) p.b.length p.b.length] 25)
  have l8 := below_to hl b8 hl.size
  have HV8 := Lib.hid (HV.out.below l8)
  have HO8 := Lib.hid (HO.out.below l8)
  have HX8 := Lib.hid (HX0.out.below l8)
  have HY8 := Lib.hid (HY0.out.below l8)
  have HB8 := Lib.hid (below_to HB.out l8 HNS6.out)
  have HU8 : Hid (DgAt (w7.alloc (.cells #[.int .u16 p.src, .int .u16 p.dst, .bool p.plain, .slice (some ⟨b7, 0, none⟩) p.b.length p.b.length] 25)) w7.heap.size p (.slice (some ⟨b7, 0, none⟩) p.b.length p.b.length)) := DgAt.new w7 p _
  have HP8 := Lib.hid ((Rd.of_obj (c := p.b.length) hbo (Nat.le_refl _)).below b8)
  clear hbo hl b8 l8 X7 HV HO HX0 HY0 HB
  generalize hW8 : w7.alloc (.cells #[.int .u16 p.src, .int .u16 p.dst, .bool p.plain, .slice (some ⟨b7, 0, none⟩) p.b.length p.b.length] 25) = W8 at *
  have HWW := Lib.hid hW8
  clear hW8
  go_upto_region 8 with fail
  rw [HWW.out]
  clear HWW
  generalize w7.heap.size = g8 at *
  have hMI := HMI.out
  obtain ⟨C, hC⟩ : ∃ C : Int, n4 % 65536 = C := ⟨_, rfl⟩
  have f1 : bits .and .i64 n4 65535 = C := by rw [and_low_i64]; exact hC
  have c1 : 0 ≤ C ∧ C < 65536 := by omega
  obtain ⟨K, hK⟩ : ∃ K : Int, C % MI = K := ⟨_, rfl⟩
  have m0 : 8 ≤ MI := by have h1 := HPL.out; omega
  have c2 : 0 ≤ K ∧ K < MI := by
    rw [← hK]
    exact ⟨Int.emod_nonneg _ (by omega), Int.emod_lt_of_pos _ (by omega)⟩
  have f2 : C.tmod MI = K := by rw [Int.tmod_eq_emod_of_nonneg c1.1]; exact hK
  have f3 : IntKind.i64.wrap K = K := by have h1 := HNP.out; rw [IntKind.wrap_i64]; omega
  have f3b : IntKind.i64.wrap C = C := by rw [IntKind.wrap_i64]; omega
  have f4 : ¬ MI = 0 := by omega
  have f5 : (MI == 0) = false := by simp [f4]
  have f6 : 0 ≤ K := c2.1
  have f7 : ¬ K < 0 := by omega
  have f8 : K ≤ MI := by omega
  obtain ⟨kn, hkn⟩ : ∃ kn : Nat, K.toNat = kn := ⟨_, rfl⟩
  have HKN : Hid (kn < p.n) := by rw [HM.out]; show kn < m; omega
  have X8 : Hid (Calls Tryd.prog 9 #[.slice (some ⟨b, 0, none⟩) kn m, .int .u32 (n1 : Int), .int .u32 (n2 : Int)] W8 fun e w' => ∃ l, ToldErr (.agg noDgRow) 2 l W8 e w') := by
    have hr := HY8.out.rd
    rw [p.bs_len, ← HPL.out] at hr
    exact uParse_cut HOK.out kn HKN.out (some ⟨b, 0, none⟩) m W8 (hr.frontAt (K := kn) (by rw [p.bs_len, ← HPL.out]; have h1 := HKN.out; have h2 := HM.out; omega)) n1 n2
  clear hC hK c1 m0 c2
  go_wp2_with fail
  refine X8.out.mono ?_
  rintro e w9 ⟨l9, b9, rfl, hc9, hl⟩
  have b10 := below_al (Below.refl w9.heap.size w9) (.cells noDgRow 25)
  have l10 := below_to hl b10 hl.size
  have HV10 := Lib.hid (HV8.out.below l10)
  have HO10 := Lib.hid (HO8.out.below l10)
  have HX10 := Lib.hid (HX8.out.below l10)
  have HU10 := Lib.hid (HU8.out.below l10)
  have HP10 := Lib.hid (HP8.out.below l10)
  have HB10 := Lib.hid (below_to HB8.out l10 (by rw [← HW.out]; exact HB8.out.size))
  have HC10 := Lib.hid (hc9.below b10)
  clear hc9 hl b10 l10 X8 HV8 HO8 HX8 HY8 HU8 HP8 HB8 hMI f1 f2 f3 f3b f4 f5 f6 f7 f8 hkn
  unfold noDgRow at *
  generalize hW10 : w9.alloc (.cells #[.int .u16 0, .int .u16 0, .bool false, .slice none 0 0] 25) = W10 at *
  have HWW := Lib.hid hW10
  clear hW10
  go_upto_region 9 with fail
  rw [HWW.out]
  clear HWW
  have HE : Hid (∀ W, _) := fun W => refDg_eqB p p W
  rw [dgB_same] at HE
  have REF : Hid (∀ (A : Option Addr) (c : Nat) (W : World), Rd W (.slice A p.b.length c) p.b → Calls Tryd.prog 12 #[.agg #[.int .u16 p.src, .int .u16 p.dst, .bool p.plain, .slice A p.b.length c]] W fun e w' => e = .returned (.agg #[.int .u32 p.src, .int .u32 p.dst, .bool p.plain, .string (txt p.b)]) ∧ Below W.heap.size W w') := fun A c W h => uof_any p HIP.out A c W h
  have R1 : Hid (∀ W, Below W10.heap.size W10 W → Rd W (.slice (some ⟨b6, 0, none⟩) p.b.length p.b.length) p.b) := fun W h => (Rd.of_obj (c := p.b.length) HO10.out (Nat.le_refl _)).below h
  have R2 : Hid (∀ W, Below W10.heap.size W10 W → Rd W (.slice A0 p.b.length c0) p.b) := fun W h => HRP.out.below (by rw [HW.out]; exact below_to HB10.out h (by rw [← HW.out]; exact HB10.out.size))
  have R3 : Hid (∀ W, Below W10.heap.size W10 W → Rd W (.slice (some ⟨b7, 0, none⟩) p.b.length p.b.length) p.b) := fun W h => HP10.out.below h
  have KS : Hid (∀ W, Below W10.heap.size W10 W → W.cell? ⟨k6, 0, none⟩ = some (.int .u16 p.src) ∧ W.cell? ⟨k6, 1, none⟩ = some (.int .u16 p.dst) ∧ W.cell? ⟨k6, 2, none⟩ = some (.bool p.plain) ∧ W.cell? ⟨k6, 3, none⟩ = some (.slice (some ⟨b6, 0, none⟩) p.b.length p.b.length) ∧ W.cell? ⟨n, 0, none⟩ = some (.int .u16 p.src) ∧ W.cell? ⟨n, 1, none⟩ = some (.int .u16 p.dst) ∧ W.cell? ⟨n, 2, none⟩ = some (.bool p.plain) ∧ W.cell? ⟨n, 3, none⟩ = some (.slice A0 p.b.length c0) ∧ W.cell? ⟨g8, 0, none⟩ = some (.int .u16 p.src) ∧ W.cell? ⟨g8, 1, none⟩ = some (.int .u16 p.dst) ∧ W.cell? ⟨g8, 2, none⟩ = some (.bool p.plain) ∧ W.cell? ⟨g8, 3, none⟩ = some (.slice (some ⟨b7, 0, none⟩) p.b.length p.b.length)) := fun W h => by
    obtain ⟨e0, e1, e2, e3⟩ := (HV10.out.below h).cells
    obtain ⟨f0, f1, f2, f3⟩ := (HX10.out.below h).cells
    obtain ⟨i0, i1, i2, i3⟩ := (HU10.out.below h).cells
    exact ⟨e0, e1, e2, e3, f0, f1, f2, f3, i0, i1, i2, i3⟩
  have HGG := Lib.hid (HGW.out)
  have HNS : Hid (n ≤ W10.heap.size) := by rw [← HW.out]; exact HB10.out.size
  have XK : Hid (∀ W, Below W10.heap.size W10 W → Calls Tryd.prog 15 #[.iface 98 (.pointer (some ⟨b9, 0, none⟩))] W fun e w' => e = .returned (.int .i64 2) ∧ Below W.heap.size W w') := fun W h => code_any 2 _ _ _ (HG.out.below (by rw [HW.out]; exact below_to HB10.out h HNS.out)) (HC10.out.below h)
  have HEE := HE.out
  clear HE HV10 HO10 HX10 HU10 HP10 HRP HGW HGG
  generalize txt p.b = up at *
  go_region_held_law (fun W => W.cell? ⟨k6, 0, none⟩ = some (.int .u16 p.src) ∧ W.cell? ⟨k6, 1, none⟩ = some (.int .u16 p.dst) ∧ W.cell? ⟨k6, 2, none⟩ = some (.bool p.plain) ∧ W.cell? ⟨k6, 3, none⟩ = some (.slice (some ⟨b6, 0, none⟩) p.b.length p.b.length) ∧ W.cell? ⟨n, 0, none⟩ = some (.int .u16 p.src) ∧ W.cell? ⟨n, 1, none⟩ = some (.int .u16 p.dst) ∧ W.cell? ⟨n, 2, none⟩ = some (.bool p.plain) ∧ W.cell? ⟨n, 3, none⟩ = some (.slice A0 p.b.length c0) ∧ W.cell? ⟨g8, 0, none⟩ = some (.int .u16 p.src) ∧ W.cell? ⟨g8, 1, none⟩ = some (.int .u16 p.dst) ∧ W.cell? ⟨g8, 2, none⟩ = some (.bool p.plain) ∧ W.cell? ⟨g8, 3, none⟩ = some (.slice (some ⟨b7, 0, none⟩) p.b.length p.b.length))
    (first | assumption | exact KS.out _ (below_drew W10) | exact KS.out _ H1.out | exact KS.out _ H2.out | exact KS.out _ H3.out | exact KS.out _ H4.out | exact KS.out _ H5.out)
    (first
      | (go_at_call 12; (with_reducible refine (REF.out (some ⟨b6, 0, none⟩) p.b.length _ (R1.out _ (below_drew W10))).mono ?_); rintro e x1 ⟨rfl, hl9⟩; (have H1 := Lib.hid ((below_drew W10).trans hl9)); clear hl9)
      | (go_at_call 12; (with_reducible refine (REF.out A0 c0 _ (R2.out _ H1.out)).mono ?_); rintro e x2 ⟨rfl, hl9⟩; (have H2 := Lib.hid (below_to H1.out hl9 H1.out.size)); clear hl9)
      | (go_at_call 12; (with_reducible refine (REF.out (some ⟨b7, 0, none⟩) p.b.length _ (R3.out _ H2.out)).mono ?_); rintro e x3 ⟨rfl, hl9⟩; (have H3 := Lib.hid (below_to H2.out hl9 H2.out.size)); clear hl9)
      | (go_at_call 12; (with_reducible refine (REF.out A0 c0 _ (R2.out _ H3.out)).mono ?_); rintro e x4 ⟨rfl, hl9⟩; (have H4 := Lib.hid (below_to H3.out hl9 H3.out.size)); clear hl9)
      | (go_at_call 15; (with_reducible refine (XK.out _ H4.out).mono ?_); rintro e x5 ⟨rfl, hl9⟩; (have H5 := Lib.hid (below_to H4.out hl9 H4.out.size)); clear hl9))
  all_goals (go_wp2_with fail)
  all_goals go_ret
  all_goals exact ⟨rfl, by rw [HW.out]; exact below_to HB10.out H5.out HNS.out⟩
end Go.Proofs.YtikcnlcpbifobaaDoor
