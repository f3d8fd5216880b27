/-
  What is proved: the law ArpBack answers true for any packet and bytes, and leaves all older memory as it was.
  Conditions: errors.errorType holds the handle of the type error; the packet's numbers fit their types; the slices are of fewer than 2^63 bytes.
-/
import Derived.Test.YtpmdnpgeohigoaaDoorABk2
import Derived.Test.YtpmdnpgeohigoaaDoorAKind
import Derived.BigQuiet
import Derived.Deep.QuietTactic
namespace Go.Proofs.YtpmdnpgeohigoaaDoor
open Go.RowKit

set_option maxRecDepth 100000 in
set_option maxHeartbeats 40000000 in
theorem back_any (p : Pkt) (A1 : Option Addr) (c1 : Nat) (l1 : List UInt8) (A2 : Option Addr) (c2 : Nat) (l2 : List UInt8) (w : World) (hg : Hdl w) (hp : p.In) (hr1 : Rd w (.slice A1 l1.length c1) l1) (hc1 : c1 ≤ 9223372036854775807) (hr2 : Rd w (.slice A2 l2.length c2) l2) (hc2 : c2 ≤ 9223372036854775807) :
    Calls Tryd.prog 4 #[p.val, .slice A1 l1.length c1, .slice A2 l2.length c2] w fun e w' => e = .returned (.bool true) ∧ Below w.heap.size w w' := by
  have b1 := below_al (Below.refl w.heap.size w) p.obj
  have hlc1 := hr1.cap_le
  have hlc2 := hr2.cap_le
  obtain ⟨ms, hms⟩ : ∃ ms, l1.take 50 = ms := ⟨_, rfl⟩
  obtain ⟨ls, hls⟩ : ∃ ls, l2.take 100 = ls := ⟨_, rfl⟩
  have HG := Lib.hid hg
  have HS := Lib.hid (aShown_any _ (hg.below b1))
  have HX0 := Lib.hid (PktAt.new w p)
  have HB0 := Lib.hid b1
  have HP := Lib.hid hp
  have HM0 : Hid (Rd w (.slice A1 ms.length c1) ms) := by rw [← hms]; exact afront_any hr1 50
  have HR2 : Hid (Rd w (.slice A2 ls.length c2) ls) := by rw [← hls]; exact afront_any hr2 100
  have hk1 : ms.length ≤ l1.length := by rw [← hms, List.length_take]; omega
  have hk2 : ms.length ≤ 50 := by rw [← hms, List.length_take]; omega
  have hj1 : ls.length ≤ l2.length := by rw [← hls, List.length_take]; omega
  have hj2 : ls.length ≤ 100 := by rw [← hls, List.length_take]; omega
  have hi1 : (ms.length : Int) ≤ (l1.length : Int) := by omega
  have hi2 : (ls.length : Int) ≤ (l2.length : Int) := by omega
  have HMIN1 := Lib.hid (fun W => min_run (P := Tryd.prog) #[3, 3] 3 (l1.length : Int) 50 (ms.length : Int) (by rw [← hms, List.length_take]; omega) W)
  have HMIN2 := Lib.hid (fun W => min_run (P := Tryd.prog) #[3, 3] 3 (l2.length : Int) 100 (ls.length : Int) (by rw [← hls, List.length_take]; omega) W)
  clear hg b1 hp hr1 hr2 hms hls
  generalize l1.length = n1 at *
  generalize l2.length = n2 at *
  have H2 : Hid (ls.length ≤ n2 ∧ ls.length ≤ 100 ∧ n2 ≤ c2 ∧ c2 ≤ 9223372036854775807 ∧ (ls.length : Int) ≤ (n2 : Int)) := ⟨hj1, hj2, hlc2, hc2, hi2⟩
  clear hj1 hj2 hlc2 hc2 hi2
  rw [Pkt.val_lit]
  unfold Pkt.obj at HS
  go_enter Tryd.func4, Tryd.ntmps4
  go_wp2_with fail
  refine HS.out.mono ?_
  rintro e W0 ⟨rfl, hl⟩
  have HX1 := Lib.hid (HX0.out.below hl)
  have HB1 := Lib.hid (below_to HB0.out hl HB0.out.size)
  clear HS hl HX0 HB0
  have X1 := Lib.hid (aBytes_lit p HP.out W0)
  obtain ⟨d0, d1, d2, d3, d4, d5, d6, d7, d8, d9, d10, d11, d12, d13, d14⟩ := HX1.out.cells
  go_wp2_with fail
  refine X1.out.mono ?_
  clear d0 d1 d2 d3 d4 d5 d6 d7 d8 d9 d10 d11 d12 d13 d14
  rintro e w5 ⟨bc, rfl, hbn, hob, hl2⟩
  have HX := Lib.hid (HX1.out.below hl2)
  have hb5 := below_to HB1.out hl2 HB1.out.size
  have HC := Lib.hid (show BytesAt w5 bc p.bs from hob)
  have HM := Lib.hid (HM0.out.below hb5)
  generalize hn : w.heap.size = n at *
  have HW := Lib.hid hn
  have HB := Lib.hid hb5
  clear X1 HX1 HB1 hbn hob hl2 HM0 hb5 hn
  go_upto_region 5 with fail
  by_cases ho : p.op = 1 ∨ p.op = 2
  · as_aux_lemma =>
      have HO := Lib.hid ho
      clear ho
      go_cut [9, 10] (fun s9 s10 wx => ∃ k, s9 = .pointer (some ⟨k, 0, none⟩) ∧ s10 = .nilIface ∧ PktAt wx k p ∧ Below w5.heap.size w5 wx)
      case first =>
        have M0a := Lib.hid (Ak.first (Below.refl w5.heap.size w5)).drew
        have M0b := Lib.hid (Ak.first (Below.refl w5.heap.size w5)).alloc.drew
        have M0c := Lib.hid (Ak.firstX (Below.refl w5.heap.size w5)).drew
        have SR : Hid (∀ W', Below w5.heap.size w5 W' → Rd W' (.slice (some ⟨bc, 0, none⟩) 28 28) p.bs) := fun W' h => (HC.out.below h).rd
        have MR : Hid (∀ W', Below w5.heap.size w5 W' → Rd W' (.slice A1 ms.length c1) ms) := fun W' h => HM.out.below h
        have HL0 : Hid (([] : List UInt8).length + p.bs.length ≤ 1099511627776) := by show _ ≤ _; rw [Pkt.bs_len]; decide
        have HL1 : Hid (p.bs.length + ms.length ≤ 1099511627776) := by show _ ≤ _; rw [Pkt.bs_len]; omega
        have HT : Hid (28 + ms.length = (p.bs ++ ms).length) := by show _ = _; rw [List.length_append, Pkt.bs_len]
        obtain ⟨T, hT⟩ : ∃ T, 28 + ms.length = T := ⟨_, rfl⟩
        have HTT := Lib.hid hT
        have XP : Hid (∀ (W' : World) (g c : Nat) (kx : Option Nat), Ak w5 W' g c (p.bs ++ ms) kx → Calls Tryd.prog 9 #[.slice (some ⟨g, 0, none⟩) T c] W' fun e w' => e = .returned (.tuple #[.agg #[.int .u16 p.op, .int .u8 p.sha.a.toNat, .int .u8 p.sha.b.toNat, .int .u8 p.sha.c.toNat, .int .u8 p.sha.d.toNat, .int .u8 p.sha.e.toNat, .int .u8 p.sha.f.toNat, .int .u32 p.spa, .int .u8 p.tha.a.toNat, .int .u8 p.tha.b.toNat, .int .u8 p.tha.c.toNat, .int .u8 p.tha.d.toNat, .int .u8 p.tha.e.toNat, .int .u8 p.tha.f.toNat, .int .u32 p.tpa], .nilIface]) ∧ Below W'.heap.size W' w') := fun W' g c kx h => aParse_ok _ p ms W' HP.out HO.out (by rw [List.length_append, Pkt.bs_len]; omega) (by rw [← hT, HT.out]; exact h.mine.rd)
        rw [World.size_alloc] at M0b
        unfold noLit at M0b M0c
        clear hT
        have hmin := fun W => HMIN1.out W
        have hmc : ms.length ≤ c1 := by omega
        have hmc2 : ¬ c1 < ms.length := by omega
        have hmc3 : (ms.length : Int) ≤ (c1 : Int) := by omega
        refine wp_region_any (by kernel_rfl) ?_
        change wpAny _ _ _ _ _ _ _ (World.drew _)
        refine wpAny_take (i := 1) (oi := ⟨some 22, _, _, _, _, _⟩) (v := (.slice (some ⟨bc, 0, none⟩) 28 28)) rfl (by kernel_rfl) (by kernel_rfl) (by kernel_rfl) (fun _ _ _ h => h) (Or.inl ⟨by rfl, ?_⟩) ?_
        · intro W
          go_simp
        try simp only [Act.put, List.setIfInBounds_toArray, List.set_cons_zero, List.set_cons_succ]
        refine wpAny_take (i := 3) (oi := ⟨some 24, _, _, _, _, _⟩) (v := (.slice A1 n1 c1)) rfl (by kernel_rfl) (by kernel_rfl) (by kernel_rfl) (fun _ _ _ h => h) (Or.inl ⟨by rfl, ?_⟩) ?_
        · intro W
          go_simp
        try simp only [Act.put, List.setIfInBounds_toArray, List.set_cons_zero, List.set_cons_succ]
        refine wpAny_take (i := 4) (oi := ⟨some 25, _, _, _, _, _⟩) (v := (.slice A1 n1 c1)) rfl (by kernel_rfl) (by kernel_rfl) (by kernel_rfl) (fun _ _ _ h => h) (Or.inl ⟨by rfl, ?_⟩) ?_
        · intro W
          go_simp
        try simp only [Act.put, List.setIfInBounds_toArray, List.set_cons_zero, List.set_cons_succ]
        refine wpAny_take (i := 5) (oi := ⟨some 26, _, _, _, _, _⟩) (v := (.int .i64 (n1 : Int))) rfl (by kernel_rfl) (by kernel_rfl) (by kernel_rfl) (fun _ _ _ h => h) (Or.inl ⟨by rfl, ?_⟩) ?_
        · intro W
          go_simp
        try simp only [Act.put, List.setIfInBounds_toArray, List.set_cons_zero, List.set_cons_succ]
        refine wpAny_take (i := 6) (oi := ⟨some 27, _, _, _, _, _⟩) (v := (.int .i64 (ms.length : Int))) rfl (by kernel_rfl) (by kernel_rfl) (by kernel_rfl) (fun _ _ _ h => h) (Or.inl ⟨by rfl, ?_⟩) ?_
        · intro W
          go_simp
        try simp only [Act.put, List.setIfInBounds_toArray, List.set_cons_zero, List.set_cons_succ]
        refine wpAny_take (i := 7) (oi := ⟨some 28, _, _, _, _, _⟩) (v := (.slice A1 ms.length c1)) rfl (by kernel_rfl) (by kernel_rfl) (by kernel_rfl) (fun _ _ _ h => h) (Or.inl ⟨by rfl, ?_⟩) ?_
        · intro W
          go_simp
        try simp only [Act.put, List.setIfInBounds_toArray, List.set_cons_zero, List.set_cons_succ]
        refine wpAny_ready (rs := [0, 13]) (by kernel_rfl) (by simp) ?_
        refine AllReady.cons (o := ⟨some 21, _, _, _, _, _⟩) rfl (fun K hK => ?_) ?_
        · go_simp
          refine hK _ _ ?_
          clear hK K
          try simp only [Act.put, List.setIfInBounds_toArray, List.set_cons_zero, List.set_cons_succ]
          refine wpAny_ready (rs := [2, 13]) (by kernel_rfl) (by simp) ?_
          refine AllReady.cons (o := ⟨some 23, _, _, _, _, _⟩) rfl (fun K hK => ?_) ?_
          · refine step_append_ak rfl (.tmp 21) (.tmp 22) rfl rfl _ _ [] p.bs _ 0 28 rfl rfl rfl ⟨M0a.out, SR.out _ M0a.out.mine.old⟩ HL0.out rfl 23 rfl ?_
            intro g1 d1 w6 h1
            have M1 := Lib.hid (show Ak w5 w6 g1 d1 p.bs _ from h1)
            clear h1
            refine hK _ _ ?_
            clear hK K
            try simp only [Act.put, List.setIfInBounds_toArray, List.set_cons_zero, List.set_cons_succ]
            refine wpAny_ready (rs := [8, 13]) (by kernel_rfl) (by simp) ?_
            refine AllReady.cons (o := ⟨some 29, _, _, _, _, _⟩) rfl (fun K hK => ?_) ?_
            · refine step_append_ak rfl (.tmp 23) (.tmp 28) rfl rfl _ _ p.bs ms _ 28 T rfl rfl rfl ⟨M1.out, MR.out _ M1.out.mine.old⟩ HL1.out (HTT.out.symm.trans HT.out) 29 rfl ?_
              intro g2 d2 w7 h2
              have M2 := Lib.hid h2
              clear h2
              refine hK _ _ ?_
              clear hK K
              try simp only [Act.put, List.setIfInBounds_toArray, List.set_cons_zero, List.set_cons_succ]
              refine wpAny_ready (rs := [9, 13]) (by kernel_rfl) (by simp) ?_
              refine AllReady.cons (o := ⟨some 30, _, _, _, _, _⟩) rfl (fun K hK => ?_) ?_
              · have XA := Lib.hid (XP.out _ _ _ _ M2.out)
                go_wp2_with (go_at_call 9; (with_reducible refine XA.out.mono ?_); rintro e w8 ⟨rfl, hl3⟩; (have M3 := Lib.hid (M2.out.below hl3)); clear hl3)
                refine wpAny_take (i := 10) (oi := ⟨some 20, _, _, _, _, _⟩) (v := (.tuple #[.agg #[.int .u16 p.op, .int .u8 p.sha.a.toNat, .int .u8 p.sha.b.toNat, .int .u8 p.sha.c.toNat, .int .u8 p.sha.d.toNat, .int .u8 p.sha.e.toNat, .int .u8 p.sha.f.toNat, .int .u32 p.spa, .int .u8 p.tha.a.toNat, .int .u8 p.tha.b.toNat, .int .u8 p.tha.c.toNat, .int .u8 p.tha.d.toNat, .int .u8 p.tha.e.toNat, .int .u8 p.tha.f.toNat, .int .u32 p.tpa], .nilIface])) rfl (by kernel_rfl) (by kernel_rfl) (by kernel_rfl) (fun _ _ _ h => h) (Or.inl ⟨by rfl, ?_⟩) ?_
                · intro W
                  go_simp
                try simp only [Act.put, List.setIfInBounds_toArray, List.set_cons_zero, List.set_cons_succ]
                refine wpAny_take (i := 11) (oi := ⟨some 31, _, _, _, _, _⟩) (v := (.agg #[.int .u16 p.op, .int .u8 p.sha.a.toNat, .int .u8 p.sha.b.toNat, .int .u8 p.sha.c.toNat, .int .u8 p.sha.d.toNat, .int .u8 p.sha.e.toNat, .int .u8 p.sha.f.toNat, .int .u32 p.spa, .int .u8 p.tha.a.toNat, .int .u8 p.tha.b.toNat, .int .u8 p.tha.c.toNat, .int .u8 p.tha.d.toNat, .int .u8 p.tha.e.toNat, .int .u8 p.tha.f.toNat, .int .u32 p.tpa])) rfl (by kernel_rfl) (by kernel_rfl) (by kernel_rfl) (fun _ _ _ h => h) (Or.inl ⟨by rfl, ?_⟩) ?_
                · intro W
                  go_simp
                try simp only [Act.put, List.setIfInBounds_toArray, List.set_cons_zero, List.set_cons_succ]
                refine wpAny_take (i := 12) (oi := ⟨some 32, _, _, _, _, _⟩) (v := .nilIface) rfl (by kernel_rfl) (by kernel_rfl) (by kernel_rfl) (fun _ _ _ h => h) (Or.inl ⟨by rfl, ?_⟩) ?_
                · intro W
                  go_simp
                try simp only [Act.put, List.setIfInBounds_toArray, List.set_cons_zero, List.set_cons_succ]
                refine wpAny_ready (rs := [13]) (by kernel_rfl) (by simp) ?_
                refine AllReady.cons (o := ⟨some 9, _, _, _, _, _⟩) rfl (fun K hK => ?_) ?_
                · go_simp
                  refine hK _ _ ?_
                  clear hK K
                  try simp only [Act.put, List.setIfInBounds_toArray, List.set_cons_zero, List.set_cons_succ]
                  refine wpAny_ready (rs := [14]) (by kernel_rfl) (by simp) ?_
                  refine AllReady.cons (o := ⟨none, _, _, _, _, _⟩) rfl (fun K hK => ?_) ?_
                  · refine step_store_pk rfl (.tmp 9) (.tmp 31) rfl w8.heap.size p rfl rfl (heap_alloc_new w8 noLit) rfl ?_
                    refine hK _ _ ?_
                    clear hK K
                    try simp only [Act.put]
                    refine wpAny_take (i := 15) (oi := ⟨some 10, _, _, _, _, _⟩) (v := .nilIface) rfl (by kernel_rfl) (by kernel_rfl) (by kernel_rfl) (fun _ _ _ h => h) (Or.inl ⟨by rfl, ?_⟩) ?_
                    · intro W
                      go_simp
                    try simp only [Act.put, List.setIfInBounds_toArray, List.set_cons_zero, List.set_cons_succ]
                    refine wpAny_done (by kernel_rfl) ?_ _
                    go_wp2_with fail
                    go_meet
                    exact ⟨_, rfl, rfl, pk_stored (heap_alloc_new w8 noLit) p, below_arow (below_al M3.out.mine.old _) M3.out.mine.old.size _⟩
                  exact AllReady.nil
                exact AllReady.nil
              refine AllReady.cons (o := ⟨some 9, _, _, _, _, _⟩) rfl (fun K hK => ?_) ?_
              · go_simp
                refine hK _ _ ?_
                clear hK K
                try simp only [Act.put, List.setIfInBounds_toArray, List.set_cons_zero, List.set_cons_succ]
                refine wpAny_ready (rs := [9]) (by kernel_rfl) (by simp) ?_
                refine AllReady.cons (o := ⟨some 30, _, _, _, _, _⟩) rfl (fun K hK => ?_) ?_
                · have XA := Lib.hid (XP.out _ _ _ _ M2.out.alloc)
                  unfold noLit at XA
                  go_wp2_with (go_at_call 9; (with_reducible refine XA.out.mono ?_); rintro e w8 ⟨rfl, hl3⟩; (have M3 := Lib.hid (M2.out.alloc.below hl3)); clear hl3)
                  refine wpAny_take (i := 10) (oi := ⟨some 20, _, _, _, _, _⟩) (v := (.tuple #[.agg #[.int .u16 p.op, .int .u8 p.sha.a.toNat, .int .u8 p.sha.b.toNat, .int .u8 p.sha.c.toNat, .int .u8 p.sha.d.toNat, .int .u8 p.sha.e.toNat, .int .u8 p.sha.f.toNat, .int .u32 p.spa, .int .u8 p.tha.a.toNat, .int .u8 p.tha.b.toNat, .int .u8 p.tha.c.toNat, .int .u8 p.tha.d.toNat, .int .u8 p.tha.e.toNat, .int .u8 p.tha.f.toNat, .int .u32 p.tpa], .nilIface])) rfl (by kernel_rfl) (by kernel_rfl) (by kernel_rfl) (fun _ _ _ h => h) (Or.inl ⟨by rfl, ?_⟩) ?_
                  · intro W
                    go_simp
                  try simp only [Act.put, List.setIfInBounds_toArray, List.set_cons_zero, List.set_cons_succ]
                  refine wpAny_take (i := 11) (oi := ⟨some 31, _, _, _, _, _⟩) (v := (.agg #[.int .u16 p.op, .int .u8 p.sha.a.toNat, .int .u8 p.sha.b.toNat, .int .u8 p.sha.c.toNat, .int .u8 p.sha.d.toNat, .int .u8 p.sha.e.toNat, .int .u8 p.sha.f.toNat, .int .u32 p.spa, .int .u8 p.tha.a.toNat, .int .u8 p.tha.b.toNat, .int .u8 p.tha.c.toNat, .int .u8 p.tha.d.toNat, .int .u8 p.tha.e.toNat, .int .u8 p.tha.f.toNat, .int .u32 p.tpa])) rfl (by kernel_rfl) (by kernel_rfl) (by kernel_rfl) (fun _ _ _ h => h) (Or.inl ⟨by rfl, ?_⟩) ?_
                  · intro W
                    go_simp
                  try simp only [Act.put, List.setIfInBounds_toArray, List.set_cons_zero, List.set_cons_succ]
                  refine wpAny_take (i := 12) (oi := ⟨some 32, _, _, _, _, _⟩) (v := .nilIface) rfl (by kernel_rfl) (by kernel_rfl) (by kernel_rfl) (fun _ _ _ h => h) (Or.inl ⟨by rfl, ?_⟩) ?_
                  · intro W
                    go_simp
                  try simp only [Act.put, List.setIfInBounds_toArray, List.set_cons_zero, List.set_cons_succ]
                  refine wpAny_ready (rs := [14]) (by kernel_rfl) (by simp) ?_
                  refine AllReady.cons (o := ⟨none, _, _, _, _, _⟩) rfl (fun K hK => ?_) ?_
                  · refine step_store_pk rfl (.tmp 9) (.tmp 31) rfl _ p rfl rfl (M3.out.x _ rfl).1 rfl ?_
                    refine hK _ _ ?_
                    clear hK K
                    try simp only [Act.put]
                    refine wpAny_take (i := 15) (oi := ⟨some 10, _, _, _, _, _⟩) (v := .nilIface) rfl (by kernel_rfl) (by kernel_rfl) (by kernel_rfl) (fun _ _ _ h => h) (Or.inl ⟨by rfl, ?_⟩) ?_
                    · intro W
                      go_simp
                    try simp only [Act.put, List.setIfInBounds_toArray, List.set_cons_zero, List.set_cons_succ]
                    refine wpAny_done (by kernel_rfl) ?_ _
                    go_wp2_with fail
                    go_meet
                    obtain ⟨x1, x2, x3⟩ := M3.out.x _ rfl
                    exact ⟨_, rfl, rfl, pk_stored x1 p, below_arow M3.out.mine.old x3 _⟩
                  exact AllReady.nil
                exact AllReady.nil
              exact AllReady.nil
            refine AllReady.cons (o := ⟨some 9, _, _, _, _, _⟩) rfl (fun K hK => ?_) ?_
            · go_simp
              refine hK _ _ ?_
              clear hK K
              try simp only [Act.put, List.setIfInBounds_toArray, List.set_cons_zero, List.set_cons_succ]
              refine wpAny_ready (rs := [8]) (by kernel_rfl) (by simp) ?_
              refine AllReady.cons (o := ⟨some 29, _, _, _, _, _⟩) rfl (fun K hK => ?_) ?_
              · refine step_append_ak rfl (.tmp 23) (.tmp 28) rfl rfl _ _ p.bs ms _ 28 T rfl rfl rfl ⟨M1.out.alloc, MR.out _ M1.out.alloc.mine.old⟩ HL1.out (HTT.out.symm.trans HT.out) 29 rfl ?_
                intro g2 d2 w7 h2
                have M2 := Lib.hid h2
                clear h2
                refine hK _ _ ?_
                clear hK K
                try simp only [Act.put, List.setIfInBounds_toArray, List.set_cons_zero, List.set_cons_succ]
                refine wpAny_ready (rs := [9]) (by kernel_rfl) (by simp) ?_
                refine AllReady.cons (o := ⟨some 30, _, _, _, _, _⟩) rfl (fun K hK => ?_) ?_
                · have XA := Lib.hid (XP.out _ _ _ _ M2.out)
                  go_wp2_with (go_at_call 9; (with_reducible refine XA.out.mono ?_); rintro e w8 ⟨rfl, hl3⟩; (have M3 := Lib.hid (M2.out.below hl3)); clear hl3)
                  refine wpAny_take (i := 10) (oi := ⟨some 20, _, _, _, _, _⟩) (v := (.tuple #[.agg #[.int .u16 p.op, .int .u8 p.sha.a.toNat, .int .u8 p.sha.b.toNat, .int .u8 p.sha.c.toNat, .int .u8 p.sha.d.toNat, .int .u8 p.sha.e.toNat, .int .u8 p.sha.f.toNat, .int .u32 p.spa, .int .u8 p.tha.a.toNat, .int .u8 p.tha.b.toNat, .int .u8 p.tha.c.toNat, .int .u8 p.tha.d.toNat, .int .u8 p.tha.e.toNat, .int .u8 p.tha.f.toNat, .int .u32 p.tpa], .nilIface])) rfl (by kernel_rfl) (by kernel_rfl) (by kernel_rfl) (fun _ _ _ h => h) (Or.inl ⟨by rfl, ?_⟩) ?_
                  · intro W
                    go_simp
                  try simp only [Act.put, List.setIfInBounds_toArray, List.set_cons_zero, List.set_cons_succ]
                  refine wpAny_take (i := 11) (oi := ⟨some 31, _, _, _, _, _⟩) (v := (.agg #[.int .u16 p.op, .int .u8 p.sha.a.toNat, .int .u8 p.sha.b.toNat, .int .u8 p.sha.c.toNat, .int .u8 p.sha.d.toNat, .int .u8 p.sha.e.toNat, .int .u8 p.sha.f.toNat, .int .u32 p.spa, .int .u8 p.tha.a.toNat, .int .u8 p.tha.b.toNat, .int .u8 p.tha.c.toNat, .int .u8 p.tha.d.toNat, .int .u8 p.tha.e.toNat, .int .u8 p.tha.f.toNat, .int .u32 p.tpa])) rfl (by kernel_rfl) (by kernel_rfl) (by kernel_rfl) (fun _ _ _ h => h) (Or.inl ⟨by rfl, ?_⟩) ?_
                  · intro W
                    go_simp
                  try simp only [Act.put, List.setIfInBounds_toArray, List.set_cons_zero, List.set_cons_succ]
                  refine wpAny_take (i := 12) (oi := ⟨some 32, _, _, _, _, _⟩) (v := .nilIface) rfl (by kernel_rfl) (by kernel_rfl) (by kernel_rfl) (fun _ _ _ h => h) (Or.inl ⟨by rfl, ?_⟩) ?_
                  · intro W
                    go_simp
                  try simp only [Act.put, List.setIfInBounds_toArray, List.set_cons_zero, List.set_cons_succ]
                  refine wpAny_ready (rs := [14]) (by kernel_rfl) (by simp) ?_
                  refine AllReady.cons (o := ⟨none, _, _, _, _, _⟩) rfl (fun K hK => ?_) ?_
                  · refine step_store_pk rfl (.tmp 9) (.tmp 31) rfl _ p rfl rfl (M3.out.x _ rfl).1 rfl ?_
                    refine hK _ _ ?_
                    clear hK K
                    try simp only [Act.put]
                    refine wpAny_take (i := 15) (oi := ⟨some 10, _, _, _, _, _⟩) (v := .nilIface) rfl (by kernel_rfl) (by kernel_rfl) (by kernel_rfl) (fun _ _ _ h => h) (Or.inl ⟨by rfl, ?_⟩) ?_
                    · intro W
                      go_simp
                    try simp only [Act.put, List.setIfInBounds_toArray, List.set_cons_zero, List.set_cons_succ]
                    refine wpAny_done (by kernel_rfl) ?_ _
                    go_wp2_with fail
                    go_meet
                    obtain ⟨x1, x2, x3⟩ := M3.out.x _ rfl
                    exact ⟨_, rfl, rfl, pk_stored x1 p, below_arow M3.out.mine.old x3 _⟩
                  exact AllReady.nil
                exact AllReady.nil
              exact AllReady.nil
            exact AllReady.nil
          refine AllReady.cons (o := ⟨some 9, _, _, _, _, _⟩) rfl (fun K hK => ?_) ?_
          · go_simp
            refine hK _ _ ?_
            clear hK K
            try simp only [Act.put, List.setIfInBounds_toArray, List.set_cons_zero, List.set_cons_succ]
            refine wpAny_ready (rs := [2]) (by kernel_rfl) (by simp) ?_
            refine AllReady.cons (o := ⟨some 23, _, _, _, _, _⟩) rfl (fun K hK => ?_) ?_
            · refine step_append_ak rfl (.tmp 21) (.tmp 22) rfl rfl _ _ [] p.bs _ 0 28 rfl rfl rfl ⟨M0b.out, SR.out _ M0b.out.mine.old⟩ HL0.out rfl 23 rfl ?_
              intro g1 d1 w6 h1
              have M1 := Lib.hid (show Ak w5 w6 g1 d1 p.bs _ from h1)
              clear h1
              refine hK _ _ ?_
              clear hK K
              try simp only [Act.put, List.setIfInBounds_toArray, List.set_cons_zero, List.set_cons_succ]
              refine wpAny_ready (rs := [8]) (by kernel_rfl) (by simp) ?_
              refine AllReady.cons (o := ⟨some 29, _, _, _, _, _⟩) rfl (fun K hK => ?_) ?_
              · refine step_append_ak rfl (.tmp 23) (.tmp 28) rfl rfl _ _ p.bs ms _ 28 T rfl rfl rfl ⟨M1.out, MR.out _ M1.out.mine.old⟩ HL1.out (HTT.out.symm.trans HT.out) 29 rfl ?_
                intro g2 d2 w7 h2
                have M2 := Lib.hid h2
                clear h2
                refine hK _ _ ?_
                clear hK K
                try simp only [Act.put, List.setIfInBounds_toArray, List.set_cons_zero, List.set_cons_succ]
                refine wpAny_ready (rs := [9]) (by kernel_rfl) (by simp) ?_
                refine AllReady.cons (o := ⟨some 30, _, _, _, _, _⟩) rfl (fun K hK => ?_) ?_
                · have XA := Lib.hid (XP.out _ _ _ _ M2.out)
                  go_wp2_with (go_at_call 9; (with_reducible refine XA.out.mono ?_); rintro e w8 ⟨rfl, hl3⟩; (have M3 := Lib.hid (M2.out.below hl3)); clear hl3)
                  refine wpAny_take (i := 10) (oi := ⟨some 20, _, _, _, _, _⟩) (v := (.tuple #[.agg #[.int .u16 p.op, .int .u8 p.sha.a.toNat, .int .u8 p.sha.b.toNat, .int .u8 p.sha.c.toNat, .int .u8 p.sha.d.toNat, .int .u8 p.sha.e.toNat, .int .u8 p.sha.f.toNat, .int .u32 p.spa, .int .u8 p.tha.a.toNat, .int .u8 p.tha.b.toNat, .int .u8 p.tha.c.toNat, .int .u8 p.tha.d.toNat, .int .u8 p.tha.e.toNat, .int .u8 p.tha.f.toNat, .int .u32 p.tpa], .nilIface])) rfl (by kernel_rfl) (by kernel_rfl) (by kernel_rfl) (fun _ _ _ h => h) (Or.inl ⟨by rfl, ?_⟩) ?_
                  · intro W
                    go_simp
                  try simp only [Act.put, List.setIfInBounds_toArray, List.set_cons_zero, List.set_cons_succ]
                  refine wpAny_take (i := 11) (oi := ⟨some 31, _, _, _, _, _⟩) (v := (.agg #[.int .u16 p.op, .int .u8 p.sha.a.toNat, .int .u8 p.sha.b.toNat, .int .u8 p.sha.c.toNat, .int .u8 p.sha.d.toNat, .int .u8 p.sha.e.toNat, .int .u8 p.sha.f.toNat, .int .u32 p.spa, .int .u8 p.tha.a.toNat, .int .u8 p.tha.b.toNat, .int .u8 p.tha.c.toNat, .int .u8 p.tha.d.toNat, .int .u8 p.tha.e.toNat, .int .u8 p.tha.f.toNat, .int .u32 p.tpa])) rfl (by kernel_rfl) (by kernel_rfl) (by kernel_rfl) (fun _ _ _ h => h) (Or.inl ⟨by rfl, ?_⟩) ?_
                  · intro W
                    go_simp
                  try simp only [Act.put, List.setIfInBounds_toArray, List.set_cons_zero, List.set_cons_succ]
                  refine wpAny_take (i := 12) (oi := ⟨some 32, _, _, _, _, _⟩) (v := .nilIface) rfl (by kernel_rfl) (by kernel_rfl) (by kernel_rfl) (fun _ _ _ h => h) (Or.inl ⟨by rfl, ?_⟩) ?_
                  · intro W
                    go_simp
                  try simp only [Act.put, List.setIfInBounds_toArray, List.set_cons_zero, List.set_cons_succ]
                  refine wpAny_ready (rs := [14]) (by kernel_rfl) (by simp) ?_
                  refine AllReady.cons (o := ⟨none, _, _, _, _, _⟩) rfl (fun K hK => ?_) ?_
                  · refine step_store_pk rfl (.tmp 9) (.tmp 31) rfl _ p rfl rfl (M3.out.x _ rfl).1 rfl ?_
                    refine hK _ _ ?_
                    clear hK K
                    try simp only [Act.put]
                    refine wpAny_take (i := 15) (oi := ⟨some 10, _, _, _, _, _⟩) (v := .nilIface) rfl (by kernel_rfl) (by kernel_rfl) (by kernel_rfl) (fun _ _ _ h => h) (Or.inl ⟨by rfl, ?_⟩) ?_
                    · intro W
                      go_simp
                    try simp only [Act.put, List.setIfInBounds_toArray, List.set_cons_zero, List.set_cons_succ]
                    refine wpAny_done (by kernel_rfl) ?_ _
                    go_wp2_with fail
                    go_meet
                    obtain ⟨x1, x2, x3⟩ := M3.out.x _ rfl
                    exact ⟨_, rfl, rfl, pk_stored x1 p, below_arow M3.out.mine.old x3 _⟩
                  exact AllReady.nil
                exact AllReady.nil
              exact AllReady.nil
            exact AllReady.nil
          exact AllReady.nil
        refine AllReady.cons (o := ⟨some 9, _, _, _, _, _⟩) rfl (fun K hK => ?_) ?_
        · go_simp
          refine hK _ _ ?_
          clear hK K
          try simp only [Act.put, List.setIfInBounds_toArray, List.set_cons_zero, List.set_cons_succ]
          refine wpAny_ready (rs := [0]) (by kernel_rfl) (by simp) ?_
          refine AllReady.cons (o := ⟨some 21, _, _, _, _, _⟩) rfl (fun K hK => ?_) ?_
          · go_simp
            refine hK _ _ ?_
            clear hK K
            try simp only [Act.put, List.setIfInBounds_toArray, List.set_cons_zero, List.set_cons_succ]
            refine wpAny_ready (rs := [2]) (by kernel_rfl) (by simp) ?_
            refine AllReady.cons (o := ⟨some 23, _, _, _, _, _⟩) rfl (fun K hK => ?_) ?_
            · refine step_append_ak rfl (.tmp 21) (.tmp 22) rfl rfl _ _ [] p.bs _ 0 28 rfl rfl rfl ⟨M0c.out, SR.out _ M0c.out.mine.old⟩ HL0.out rfl 23 rfl ?_
              intro g1 d1 w6 h1
              have M1 := Lib.hid (show Ak w5 w6 g1 d1 p.bs _ from h1)
              clear h1
              refine hK _ _ ?_
              clear hK K
              try simp only [Act.put, List.setIfInBounds_toArray, List.set_cons_zero, List.set_cons_succ]
              refine wpAny_ready (rs := [8]) (by kernel_rfl) (by simp) ?_
              refine AllReady.cons (o := ⟨some 29, _, _, _, _, _⟩) rfl (fun K hK => ?_) ?_
              · refine step_append_ak rfl (.tmp 23) (.tmp 28) rfl rfl _ _ p.bs ms _ 28 T rfl rfl rfl ⟨M1.out, MR.out _ M1.out.mine.old⟩ HL1.out (HTT.out.symm.trans HT.out) 29 rfl ?_
                intro g2 d2 w7 h2
                have M2 := Lib.hid h2
                clear h2
                refine hK _ _ ?_
                clear hK K
                try simp only [Act.put, List.setIfInBounds_toArray, List.set_cons_zero, List.set_cons_succ]
                refine wpAny_ready (rs := [9]) (by kernel_rfl) (by simp) ?_
                refine AllReady.cons (o := ⟨some 30, _, _, _, _, _⟩) rfl (fun K hK => ?_) ?_
                · have XA := Lib.hid (XP.out _ _ _ _ M2.out)
                  go_wp2_with (go_at_call 9; (with_reducible refine XA.out.mono ?_); rintro e w8 ⟨rfl, hl3⟩; (have M3 := Lib.hid (M2.out.below hl3)); clear hl3)
                  refine wpAny_take (i := 10) (oi := ⟨some 20, _, _, _, _, _⟩) (v := (.tuple #[.agg #[.int .u16 p.op, .int .u8 p.sha.a.toNat, .int .u8 p.sha.b.toNat, .int .u8 p.sha.c.toNat, .int .u8 p.sha.d.toNat, .int .u8 p.sha.e.toNat, .int .u8 p.sha.f.toNat, .int .u32 p.spa, .int .u8 p.tha.a.toNat, .int .u8 p.tha.b.toNat, .int .u8 p.tha.c.toNat, .int .u8 p.tha.d.toNat, .int .u8 p.tha.e.toNat, .int .u8 p.tha.f.toNat, .int .u32 p.tpa], .nilIface])) rfl (by kernel_rfl) (by kernel_rfl) (by kernel_rfl) (fun _ _ _ h => h) (Or.inl ⟨by rfl, ?_⟩) ?_
                  · intro W
                    go_simp
                  try simp only [Act.put, List.setIfInBounds_toArray, List.set_cons_zero, List.set_cons_succ]
                  refine wpAny_take (i := 11) (oi := ⟨some 31, _, _, _, _, _⟩) (v := (.agg #[.int .u16 p.op, .int .u8 p.sha.a.toNat, .int .u8 p.sha.b.toNat, .int .u8 p.sha.c.toNat, .int .u8 p.sha.d.toNat, .int .u8 p.sha.e.toNat, .int .u8 p.sha.f.toNat, .int .u32 p.spa, .int .u8 p.tha.a.toNat, .int .u8 p.tha.b.toNat, .int .u8 p.tha.c.toNat, .int .u8 p.tha.d.toNat, .int .u8 p.tha.e.toNat, .int .u8 p.tha.f.toNat, .int .u32 p.tpa])) rfl (by kernel_rfl) (by kernel_rfl) (by kernel_rfl) (fun _ _ _ h => h) (Or.inl ⟨by rfl, ?_⟩) ?_
                  · intro W
                    go_simp
                  try simp only [Act.put, List.setIfInBounds_toArray, List.set_cons_zero, List.set_cons_succ]
                  refine wpAny_take (i := 12) (oi := ⟨some 32, _, _, _, _, _⟩) (v := .nilIface) rfl (by kernel_rfl) (by kernel_rfl) (by kernel_rfl) (fun _ _ _ h => h) (Or.inl ⟨by rfl, ?_⟩) ?_
                  · intro W
                    go_simp
                  try simp only [Act.put, List.setIfInBounds_toArray, List.set_cons_zero, List.set_cons_succ]
                  refine wpAny_ready (rs := [14]) (by kernel_rfl) (by simp) ?_
                  refine AllReady.cons (o := ⟨none, _, _, _, _, _⟩) rfl (fun K hK => ?_) ?_
                  · refine step_store_pk rfl (.tmp 9) (.tmp 31) rfl _ p rfl rfl (M3.out.x _ rfl).1 rfl ?_
                    refine hK _ _ ?_
                    clear hK K
                    try simp only [Act.put]
                    refine wpAny_take (i := 15) (oi := ⟨some 10, _, _, _, _, _⟩) (v := .nilIface) rfl (by kernel_rfl) (by kernel_rfl) (by kernel_rfl) (fun _ _ _ h => h) (Or.inl ⟨by rfl, ?_⟩) ?_
                    · intro W
                      go_simp
                    try simp only [Act.put, List.setIfInBounds_toArray, List.set_cons_zero, List.set_cons_succ]
                    refine wpAny_done (by kernel_rfl) ?_ _
                    go_wp2_with fail
                    go_meet
                    obtain ⟨x1, x2, x3⟩ := M3.out.x _ rfl
                    exact ⟨_, rfl, rfl, pk_stored x1 p, below_arow M3.out.mine.old x3 _⟩
                  exact AllReady.nil
                exact AllReady.nil
              exact AllReady.nil
            exact AllReady.nil
          exact AllReady.nil
        exact AllReady.nil
      case rest =>
        obtain ⟨kx, rfl, rfl, hx6, hb6⟩ := hcut
        generalize wc = w6 at *
        have HX6 := Lib.hid (HX.out.below hb6)
        have HB6 := Lib.hid (below_on HB.out HW.out hb6)
        have HK6 := Lib.hid hx6
        clear hx6 hb6 HX HB HC HM
        obtain ⟨d0, d1, d2, d3, d4, d5, d6, d7, d8, d9, d10, d11, d12, d13, d14⟩ := HX6.out.cells
        go_upto_region 6 with fail
        go_cut [11] (fun s11 wx => s11 = .bool true ∧ wx = w6)
        case first =>
          clear d1 d2 d3 d4 d5 d6 d7 d8 d9 d10 d11 d12 d13 d14
          rcases HO.out with h | h
          · have o1 : ((p.op : Int) == 1) = true := by rw [h]; rfl
            clear h
            go_wp2_with fail
            go_meet
            exact ⟨rfl, rfl⟩
          · have o1 : ((p.op : Int) == 1) = false := by rw [h]; rfl
            have o2 : ((p.op : Int) == 2) = true := by rw [h]; rfl
            clear h
            go_wp2_with fail
            go_meet
            exact ⟨rfl, rfl⟩
        obtain ⟨rfl, hwc⟩ := hcut
        have hwc' := hwc
        clear hwc
        subst hwc'
        obtain ⟨f0, f1, f2, f3, f4, f5, f6, f7, f8, f9, f10, f11, f12, f13, f14⟩ := HK6.out.cells
        have q1 := mac_same9 p.sha
        have q2 := mac_same9 p.tha
        go_upto_region 9 with fail
        clear d0 d1 d2 d3 d4 d5 d6 d7 d8 d9 d10 d11 d12 d13 d14 f0 f1 f2 f3 f4 f5 f6 f7 f8 f9 f10 f11 f12 f13 f14 q1 q2 HX6 HK6
        obtain ⟨r1, r2, r3, r4, r5⟩ := H2.out
        have hm2 := HMIN2.out
        have r6 : ls.length ≤ c2 := by omega
        have r7 : ¬ c2 < ls.length := by omega
        have r8 : (ls.length : Int) ≤ (c2 : Int) := by omega
        have HRL : Hid (Rd wc (.slice A2 ls.length c2) ls) := HR2.out.below (by rw [HW.out]; exact HB6.out)
        go_upto_region 10 with fail
        clear r1 r2 r3 r4 r5 hm2
        rcases aParse_kind ls H2.out.2.1 with hkd | ⟨z, hz, hzl, hzb, hkd⟩
        · as_aux_lemma =>
            have XK := Lib.hid (hkd _ wc HRL.out)
            clear hkd
            go_wp2_with fail
            refine XK.out.mono ?_
            rintro e w9 ⟨n9, l9, b9, he, _, hl9⟩
            have he' : e = .returned (.tuple #[.agg #[.int .u16 0, .int .u8 0, .int .u8 0, .int .u8 0, .int .u8 0, .int .u8 0, .int .u8 0, .int .u32 0, .int .u8 0, .int .u8 0, .int .u8 0, .int .u8 0, .int .u8 0, .int .u8 0, .int .u32 0], .iface 80 (.pointer (some ⟨b9, 0, none⟩))]) := he
            subst he'
            have hb10 := below_al (Below.refl w9.heap.size w9) (.cells #[.int .u16 0, .int .u8 0, .int .u8 0, .int .u8 0, .int .u8 0, .int .u8 0, .int .u8 0, .int .u32 0, .int .u8 0, .int .u8 0, .int .u8 0, .int .u8 0, .int .u8 0, .int .u8 0, .int .u32 0] 29)
            have HB10 := Lib.hid (below_on HB6.out HW.out (below_to hl9 hb10 hl9.size))
            clear he hl9 hb10 XK HRL
            go_upto_region 11 with fail
            generalize w9.alloc (.cells #[.int .u16 0, .int .u8 0, .int .u8 0, .int .u8 0, .int .u8 0, .int .u8 0, .int .u8 0, .int .u32 0, .int .u8 0, .int .u8 0, .int .u8 0, .int .u8 0, .int .u8 0, .int .u8 0, .int .u32 0] 29) = W10 at *
            generalize w9.heap.size = g10 at *
            go_quiet (fail)
            go_wp2_with fail
            go_ret
            exact ⟨rfl, by rw [HW.out]; exact ⟨HB10.out.os, HB10.out.tape, HB10.out.output, HB10.out.size, HB10.out.block⟩⟩
        · as_aux_lemma =>
            have XK := Lib.hid (hkd _ wc HRL.out)
            have HZ := Lib.hid hz
            have HZB : Hid (z.bs = ls.take 28) := hzb
            have hz1 : (28 : Int) ≤ (ls.length : Int) := by omega
            have hz2 : (ls.length : Int) ≤ 100 := by have := H2.out.2.1; omega
            have HZL := Lib.hid hzl
            clear hkd hz hzb hzl
            go_wp2_with fail
            refine XK.out.mono ?_
            rintro e w9 ⟨he, hl9⟩
            have he' : e = .returned (.tuple #[.agg #[.int .u16 z.op, .int .u8 z.sha.a.toNat, .int .u8 z.sha.b.toNat, .int .u8 z.sha.c.toNat, .int .u8 z.sha.d.toNat, .int .u8 z.sha.e.toNat, .int .u8 z.sha.f.toNat, .int .u32 z.spa, .int .u8 z.tha.a.toNat, .int .u8 z.tha.b.toNat, .int .u8 z.tha.c.toNat, .int .u8 z.tha.d.toNat, .int .u8 z.tha.e.toNat, .int .u8 z.tha.f.toNat, .int .u32 z.tpa], .nilIface]) := he
            subst he'
            have hb10 := below_al (Below.refl w9.heap.size w9) (.cells #[.int .u16 z.op, .int .u8 z.sha.a.toNat, .int .u8 z.sha.b.toNat, .int .u8 z.sha.c.toNat, .int .u8 z.sha.d.toNat, .int .u8 z.sha.e.toNat, .int .u8 z.sha.f.toNat, .int .u32 z.spa, .int .u8 z.tha.a.toNat, .int .u8 z.tha.b.toNat, .int .u8 z.tha.c.toNat, .int .u8 z.tha.d.toNat, .int .u8 z.tha.e.toNat, .int .u8 z.tha.f.toNat, .int .u32 z.tpa] 29)
            have HX10 : Hid (PktAt (w9.alloc (.cells #[.int .u16 z.op, .int .u8 z.sha.a.toNat, .int .u8 z.sha.b.toNat, .int .u8 z.sha.c.toNat, .int .u8 z.sha.d.toNat, .int .u8 z.sha.e.toNat, .int .u8 z.sha.f.toNat, .int .u32 z.spa, .int .u8 z.tha.a.toNat, .int .u8 z.tha.b.toNat, .int .u8 z.tha.c.toNat, .int .u8 z.tha.d.toNat, .int .u8 z.tha.e.toNat, .int .u8 z.tha.f.toNat, .int .u32 z.tpa] 29)) w9.heap.size z) := PktAt.new w9 z
            have HRL10 := Lib.hid (HRL.out.below (below_to hl9 hb10 hl9.size))
            have HB10 := Lib.hid (below_on HB6.out HW.out (below_to hl9 hb10 hl9.size))
            have HS10 : Hid (n ≤ (w9.alloc (.cells #[.int .u16 z.op, .int .u8 z.sha.a.toNat, .int .u8 z.sha.b.toNat, .int .u8 z.sha.c.toNat, .int .u8 z.sha.d.toNat, .int .u8 z.sha.e.toNat, .int .u8 z.sha.f.toNat, .int .u32 z.spa, .int .u8 z.tha.a.toNat, .int .u8 z.tha.b.toNat, .int .u8 z.tha.c.toNat, .int .u8 z.tha.d.toNat, .int .u8 z.tha.e.toNat, .int .u8 z.tha.f.toNat, .int .u32 z.tpa] 29)).heap.size) := by have := HB10.out.size; rw [HW.out] at this; exact this
            clear he hl9 hb10 XK HRL
            go_upto_region 11 with fail
            generalize w9.alloc (.cells #[.int .u16 z.op, .int .u8 z.sha.a.toNat, .int .u8 z.sha.b.toNat, .int .u8 z.sha.c.toNat, .int .u8 z.sha.d.toNat, .int .u8 z.sha.e.toNat, .int .u8 z.sha.f.toNat, .int .u32 z.spa, .int .u8 z.tha.a.toNat, .int .u8 z.tha.b.toNat, .int .u8 z.tha.c.toNat, .int .u8 z.tha.d.toNat, .int .u8 z.tha.e.toNat, .int .u8 z.tha.f.toNat, .int .u32 z.tpa] 29) = W10 at *
            generalize w9.heap.size = g10 at *
            have KS : Hid (∀ W', Below W10.heap.size W10 W' → W'.cell? ⟨g10, 0, none⟩ = some (.int .u16 z.op) ∧ W'.cell? ⟨g10, 1, none⟩ = some (.int .u8 z.sha.a.toNat) ∧ W'.cell? ⟨g10, 2, none⟩ = some (.int .u8 z.sha.b.toNat) ∧ W'.cell? ⟨g10, 3, none⟩ = some (.int .u8 z.sha.c.toNat) ∧ W'.cell? ⟨g10, 4, none⟩ = some (.int .u8 z.sha.d.toNat) ∧ W'.cell? ⟨g10, 5, none⟩ = some (.int .u8 z.sha.e.toNat) ∧ W'.cell? ⟨g10, 6, none⟩ = some (.int .u8 z.sha.f.toNat) ∧ W'.cell? ⟨g10, 7, none⟩ = some (.int .u32 z.spa) ∧ W'.cell? ⟨g10, 8, none⟩ = some (.int .u8 z.tha.a.toNat) ∧ W'.cell? ⟨g10, 9, none⟩ = some (.int .u8 z.tha.b.toNat) ∧ W'.cell? ⟨g10, 10, none⟩ = some (.int .u8 z.tha.c.toNat) ∧ W'.cell? ⟨g10, 11, none⟩ = some (.int .u8 z.tha.d.toNat) ∧ W'.cell? ⟨g10, 12, none⟩ = some (.int .u8 z.tha.e.toNat) ∧ W'.cell? ⟨g10, 13, none⟩ = some (.int .u8 z.tha.f.toNat) ∧ W'.cell? ⟨g10, 14, none⟩ = some (.int .u32 z.tpa)) := fun W' h => (HX10.out.below h).cells
            have X1 := Lib.hid (aBytes_lit z HZ.out W10.drew)
            have RL : Hid (∀ W', Below W10.heap.size W10 W' → (convert 22 9 (.slice A2 28 c2)).run Tryd.prog W' = .ok (.string (txt z.bs)) W') := fun W' h => by
              rw [HZB.out]
              exact convert_rd ((HRL10.out.below h).front (K := 28) HZL.out)
            have v0 := RL.out W10.drew (below_drew W10)
            obtain ⟨tt, htt⟩ : ∃ t, txt z.bs = t := ⟨_, rfl⟩
            have HTT := Lib.hid htt
            rw [htt] at v0
            clear htt HX10
            go_region_held_law (fun W' => W'.cell? ⟨g10, 0, none⟩ = some (.int .u16 z.op) ∧ W'.cell? ⟨g10, 1, none⟩ = some (.int .u8 z.sha.a.toNat) ∧ W'.cell? ⟨g10, 2, none⟩ = some (.int .u8 z.sha.b.toNat) ∧ W'.cell? ⟨g10, 3, none⟩ = some (.int .u8 z.sha.c.toNat) ∧ W'.cell? ⟨g10, 4, none⟩ = some (.int .u8 z.sha.d.toNat) ∧ W'.cell? ⟨g10, 5, none⟩ = some (.int .u8 z.sha.e.toNat) ∧ W'.cell? ⟨g10, 6, none⟩ = some (.int .u8 z.sha.f.toNat) ∧ W'.cell? ⟨g10, 7, none⟩ = some (.int .u32 z.spa) ∧ W'.cell? ⟨g10, 8, none⟩ = some (.int .u8 z.tha.a.toNat) ∧ W'.cell? ⟨g10, 9, none⟩ = some (.int .u8 z.tha.b.toNat) ∧ W'.cell? ⟨g10, 10, none⟩ = some (.int .u8 z.tha.c.toNat) ∧ W'.cell? ⟨g10, 11, none⟩ = some (.int .u8 z.tha.d.toNat) ∧ W'.cell? ⟨g10, 12, none⟩ = some (.int .u8 z.tha.e.toNat) ∧ W'.cell? ⟨g10, 13, none⟩ = some (.int .u8 z.tha.f.toNat) ∧ W'.cell? ⟨g10, 14, none⟩ = some (.int .u32 z.tpa))
              (first | assumption | exact KS.out _ HL11.out | exact KS.out _ (below_drew W10))
              (first
                | (go_at_call 13; (with_reducible refine X1.out.mono ?_); rintro e w11 ⟨b11, rfl, _, ho11, hl11⟩; (have HL11 := Lib.hid ((below_drew W10).trans hl11)); (have v1 := convert_rd (show Rd w11 (.slice (some ⟨b11, 0, none⟩) 28 28) z.bs from Rd.of_obj ho11 (Nat.le_refl _))); (have v2 := RL.out w11 HL11.out); rw [HTT.out] at v1 v2; clear ho11 hl11))
            all_goals
              go_wp2_with fail
              go_ret
              exact ⟨rfl, by rw [HW.out]; exact below_to HB10.out HL11.out HS10.out⟩
  · as_aux_lemma =>
      have HO := Lib.hid ho
      clear ho
      go_cut [9, 10] (fun s9 s10 wx => ∃ k b3, s9 = .pointer (some ⟨k, 0, none⟩) ∧ s10 = .iface 80 (.pointer (some ⟨b3, 0, none⟩)) ∧ PktAt wx k noPkt ∧ Chain wx 3 [arpWord] (.iface 80 (.pointer (some ⟨b3, 0, none⟩))) ∧ Below w5.heap.size w5 wx)
      case first =>
        have M0a := Lib.hid (Ak.first (Below.refl w5.heap.size w5)).drew
        have M0b := Lib.hid (Ak.first (Below.refl w5.heap.size w5)).alloc.drew
        have M0c := Lib.hid (Ak.firstX (Below.refl w5.heap.size w5)).drew
        have SR : Hid (∀ W', Below w5.heap.size w5 W' → Rd W' (.slice (some ⟨bc, 0, none⟩) 28 28) p.bs) := fun W' h => (HC.out.below h).rd
        have MR : Hid (∀ W', Below w5.heap.size w5 W' → Rd W' (.slice A1 ms.length c1) ms) := fun W' h => HM.out.below h
        have HL0 : Hid (([] : List UInt8).length + p.bs.length ≤ 1099511627776) := by show _ ≤ _; rw [Pkt.bs_len]; decide
        have HL1 : Hid (p.bs.length + ms.length ≤ 1099511627776) := by show _ ≤ _; rw [Pkt.bs_len]; omega
        have HT : Hid (28 + ms.length = (p.bs ++ ms).length) := by show _ = _; rw [List.length_append, Pkt.bs_len]
        obtain ⟨T, hT⟩ : ∃ T, 28 + ms.length = T := ⟨_, rfl⟩
        have HTT := Lib.hid hT
        have XP : Hid (∀ (W' : World) (g c : Nat) (kx : Option Nat), Ak w5 W' g c (p.bs ++ ms) kx → Calls Tryd.prog 9 #[.slice (some ⟨g, 0, none⟩) T c] W' fun e w' => ∃ b, e = .returned (.tuple #[.agg #[.int .u16 0, .int .u8 0, .int .u8 0, .int .u8 0, .int .u8 0, .int .u8 0, .int .u8 0, .int .u32 0, .int .u8 0, .int .u8 0, .int .u8 0, .int .u8 0, .int .u8 0, .int .u8 0, .int .u32 0], .iface 80 (.pointer (some ⟨b, 0, none⟩))]) ∧ Chain w' 3 [arpWord] (.iface 80 (.pointer (some ⟨b, 0, none⟩))) ∧ Below W'.heap.size W' w') := fun W' g c kx h => aParse_form _ p ms W' HP.out (fun h => HO.out (.inl h)) (fun h => HO.out (.inr h)) (by rw [List.length_append, Pkt.bs_len]; omega) (by rw [← hT, HT.out]; exact h.mine.rd)
        rw [World.size_alloc] at M0b
        unfold noLit at M0b M0c
        clear hT
        have hmin := fun W => HMIN1.out W
        have hmc : ms.length ≤ c1 := by omega
        have hmc2 : ¬ c1 < ms.length := by omega
        have hmc3 : (ms.length : Int) ≤ (c1 : Int) := by omega
        refine wp_region_any (by kernel_rfl) ?_
        change wpAny _ _ _ _ _ _ _ (World.drew _)
        refine wpAny_take (i := 1) (oi := ⟨some 22, _, _, _, _, _⟩) (v := (.slice (some ⟨bc, 0, none⟩) 28 28)) rfl (by kernel_rfl) (by kernel_rfl) (by kernel_rfl) (fun _ _ _ h => h) (Or.inl ⟨by rfl, ?_⟩) ?_
        · intro W
          go_simp
        try simp only [Act.put, List.setIfInBounds_toArray, List.set_cons_zero, List.set_cons_succ]
        refine wpAny_take (i := 3) (oi := ⟨some 24, _, _, _, _, _⟩) (v := (.slice A1 n1 c1)) rfl (by kernel_rfl) (by kernel_rfl) (by kernel_rfl) (fun _ _ _ h => h) (Or.inl ⟨by rfl, ?_⟩) ?_
        · intro W
          go_simp
        try simp only [Act.put, List.setIfInBounds_toArray, List.set_cons_zero, List.set_cons_succ]
        refine wpAny_take (i := 4) (oi := ⟨some 25, _, _, _, _, _⟩) (v := (.slice A1 n1 c1)) rfl (by kernel_rfl) (by kernel_rfl) (by kernel_rfl) (fun _ _ _ h => h) (Or.inl ⟨by rfl, ?_⟩) ?_
        · intro W
          go_simp
        try simp only [Act.put, List.setIfInBounds_toArray, List.set_cons_zero, List.set_cons_succ]
        refine wpAny_take (i := 5) (oi := ⟨some 26, _, _, _, _, _⟩) (v := (.int .i64 (n1 : Int))) rfl (by kernel_rfl) (by kernel_rfl) (by kernel_rfl) (fun _ _ _ h => h) (Or.inl ⟨by rfl, ?_⟩) ?_
        · intro W
          go_simp
        try simp only [Act.put, List.setIfInBounds_toArray, List.set_cons_zero, List.set_cons_succ]
        refine wpAny_take (i := 6) (oi := ⟨some 27, _, _, _, _, _⟩) (v := (.int .i64 (ms.length : Int))) rfl (by kernel_rfl) (by kernel_rfl) (by kernel_rfl) (fun _ _ _ h => h) (Or.inl ⟨by rfl, ?_⟩) ?_
        · intro W
          go_simp
        try simp only [Act.put, List.setIfInBounds_toArray, List.set_cons_zero, List.set_cons_succ]
        refine wpAny_take (i := 7) (oi := ⟨some 28, _, _, _, _, _⟩) (v := (.slice A1 ms.length c1)) rfl (by kernel_rfl) (by kernel_rfl) (by kernel_rfl) (fun _ _ _ h => h) (Or.inl ⟨by rfl, ?_⟩) ?_
        · intro W
          go_simp
        try simp only [Act.put, List.setIfInBounds_toArray, List.set_cons_zero, List.set_cons_succ]
        refine wpAny_ready (rs := [0, 13]) (by kernel_rfl) (by simp) ?_
        refine AllReady.cons (o := ⟨some 21, _, _, _, _, _⟩) rfl (fun K hK => ?_) ?_
        · go_simp
          refine hK _ _ ?_
          clear hK K
          try simp only [Act.put, List.setIfInBounds_toArray, List.set_cons_zero, List.set_cons_succ]
          refine wpAny_ready (rs := [2, 13]) (by kernel_rfl) (by simp) ?_
          refine AllReady.cons (o := ⟨some 23, _, _, _, _, _⟩) rfl (fun K hK => ?_) ?_
          · refine step_append_ak rfl (.tmp 21) (.tmp 22) rfl rfl _ _ [] p.bs _ 0 28 rfl rfl rfl ⟨M0a.out, SR.out _ M0a.out.mine.old⟩ HL0.out rfl 23 rfl ?_
            intro g1 d1 w6 h1
            have M1 := Lib.hid (show Ak w5 w6 g1 d1 p.bs _ from h1)
            clear h1
            refine hK _ _ ?_
            clear hK K
            try simp only [Act.put, List.setIfInBounds_toArray, List.set_cons_zero, List.set_cons_succ]
            refine wpAny_ready (rs := [8, 13]) (by kernel_rfl) (by simp) ?_
            refine AllReady.cons (o := ⟨some 29, _, _, _, _, _⟩) rfl (fun K hK => ?_) ?_
            · refine step_append_ak rfl (.tmp 23) (.tmp 28) rfl rfl _ _ p.bs ms _ 28 T rfl rfl rfl ⟨M1.out, MR.out _ M1.out.mine.old⟩ HL1.out (HTT.out.symm.trans HT.out) 29 rfl ?_
              intro g2 d2 w7 h2
              have M2 := Lib.hid h2
              clear h2
              refine hK _ _ ?_
              clear hK K
              try simp only [Act.put, List.setIfInBounds_toArray, List.set_cons_zero, List.set_cons_succ]
              refine wpAny_ready (rs := [9, 13]) (by kernel_rfl) (by simp) ?_
              refine AllReady.cons (o := ⟨some 30, _, _, _, _, _⟩) rfl (fun K hK => ?_) ?_
              · have XA := Lib.hid (XP.out _ _ _ _ M2.out)
                go_wp2_with (go_at_call 9; (with_reducible refine XA.out.mono ?_); rintro e w8 ⟨b3, rfl, hc3, hl3⟩; (have M3 := Lib.hid (M2.out.below hl3)); (have HC8 := Lib.hid hc3); clear hl3 hc3)
                refine wpAny_take (i := 10) (oi := ⟨some 20, _, _, _, _, _⟩) (v := (.tuple #[.agg #[.int .u16 0, .int .u8 0, .int .u8 0, .int .u8 0, .int .u8 0, .int .u8 0, .int .u8 0, .int .u32 0, .int .u8 0, .int .u8 0, .int .u8 0, .int .u8 0, .int .u8 0, .int .u8 0, .int .u32 0], (.iface 80 (.pointer (some ⟨b3, 0, none⟩)))])) rfl (by kernel_rfl) (by kernel_rfl) (by kernel_rfl) (fun _ _ _ h => h) (Or.inl ⟨by rfl, ?_⟩) ?_
                · intro W
                  go_simp
                try simp only [Act.put, List.setIfInBounds_toArray, List.set_cons_zero, List.set_cons_succ]
                refine wpAny_take (i := 11) (oi := ⟨some 31, _, _, _, _, _⟩) (v := (.agg #[.int .u16 0, .int .u8 0, .int .u8 0, .int .u8 0, .int .u8 0, .int .u8 0, .int .u8 0, .int .u32 0, .int .u8 0, .int .u8 0, .int .u8 0, .int .u8 0, .int .u8 0, .int .u8 0, .int .u32 0])) rfl (by kernel_rfl) (by kernel_rfl) (by kernel_rfl) (fun _ _ _ h => h) (Or.inl ⟨by rfl, ?_⟩) ?_
                · intro W
                  go_simp
                try simp only [Act.put, List.setIfInBounds_toArray, List.set_cons_zero, List.set_cons_succ]
                refine wpAny_take (i := 12) (oi := ⟨some 32, _, _, _, _, _⟩) (v := (.iface 80 (.pointer (some ⟨b3, 0, none⟩)))) rfl (by kernel_rfl) (by kernel_rfl) (by kernel_rfl) (fun _ _ _ h => h) (Or.inl ⟨by rfl, ?_⟩) ?_
                · intro W
                  go_simp
                try simp only [Act.put, List.setIfInBounds_toArray, List.set_cons_zero, List.set_cons_succ]
                refine wpAny_ready (rs := [13]) (by kernel_rfl) (by simp) ?_
                refine AllReady.cons (o := ⟨some 9, _, _, _, _, _⟩) rfl (fun K hK => ?_) ?_
                · go_simp
                  refine hK _ _ ?_
                  clear hK K
                  try simp only [Act.put, List.setIfInBounds_toArray, List.set_cons_zero, List.set_cons_succ]
                  refine wpAny_ready (rs := [14]) (by kernel_rfl) (by simp) ?_
                  refine AllReady.cons (o := ⟨none, _, _, _, _, _⟩) rfl (fun K hK => ?_) ?_
                  · refine step_store_pk rfl (.tmp 9) (.tmp 31) rfl w8.heap.size noPkt rfl rfl (heap_alloc_new w8 noLit) rfl ?_
                    refine hK _ _ ?_
                    clear hK K
                    try simp only [Act.put]
                    refine wpAny_take (i := 15) (oi := ⟨some 10, _, _, _, _, _⟩) (v := (.iface 80 (.pointer (some ⟨b3, 0, none⟩)))) rfl (by kernel_rfl) (by kernel_rfl) (by kernel_rfl) (fun _ _ _ h => h) (Or.inl ⟨by rfl, ?_⟩) ?_
                    · intro W
                      go_simp
                    try simp only [Act.put, List.setIfInBounds_toArray, List.set_cons_zero, List.set_cons_succ]
                    refine wpAny_done (by kernel_rfl) ?_ _
                    go_wp2_with fail
                    go_meet
                    exact ⟨_, _, rfl, rfl, pk_stored (heap_alloc_new w8 noLit) noPkt, (HC8.out.below (below_al (Below.refl _ _) _)).row (heap_alloc_new w8 noLit) (pktRow_plain noPkt), below_arow (below_al M3.out.mine.old _) M3.out.mine.old.size _⟩
                  exact AllReady.nil
                exact AllReady.nil
              refine AllReady.cons (o := ⟨some 9, _, _, _, _, _⟩) rfl (fun K hK => ?_) ?_
              · go_simp
                refine hK _ _ ?_
                clear hK K
                try simp only [Act.put, List.setIfInBounds_toArray, List.set_cons_zero, List.set_cons_succ]
                refine wpAny_ready (rs := [9]) (by kernel_rfl) (by simp) ?_
                refine AllReady.cons (o := ⟨some 30, _, _, _, _, _⟩) rfl (fun K hK => ?_) ?_
                · have XA := Lib.hid (XP.out _ _ _ _ M2.out.alloc)
                  unfold noLit at XA
                  go_wp2_with (go_at_call 9; (with_reducible refine XA.out.mono ?_); rintro e w8 ⟨b3, rfl, hc3, hl3⟩; (have M3 := Lib.hid (M2.out.alloc.below hl3)); (have HC8 := Lib.hid hc3); clear hl3 hc3)
                  refine wpAny_take (i := 10) (oi := ⟨some 20, _, _, _, _, _⟩) (v := (.tuple #[.agg #[.int .u16 0, .int .u8 0, .int .u8 0, .int .u8 0, .int .u8 0, .int .u8 0, .int .u8 0, .int .u32 0, .int .u8 0, .int .u8 0, .int .u8 0, .int .u8 0, .int .u8 0, .int .u8 0, .int .u32 0], (.iface 80 (.pointer (some ⟨b3, 0, none⟩)))])) rfl (by kernel_rfl) (by kernel_rfl) (by kernel_rfl) (fun _ _ _ h => h) (Or.inl ⟨by rfl, ?_⟩) ?_
                  · intro W
                    go_simp
                  try simp only [Act.put, List.setIfInBounds_toArray, List.set_cons_zero, List.set_cons_succ]
                  refine wpAny_take (i := 11) (oi := ⟨some 31, _, _, _, _, _⟩) (v := (.agg #[.int .u16 0, .int .u8 0, .int .u8 0, .int .u8 0, .int .u8 0, .int .u8 0, .int .u8 0, .int .u32 0, .int .u8 0, .int .u8 0, .int .u8 0, .int .u8 0, .int .u8 0, .int .u8 0, .int .u32 0])) rfl (by kernel_rfl) (by kernel_rfl) (by kernel_rfl) (fun _ _ _ h => h) (Or.inl ⟨by rfl, ?_⟩) ?_
                  · intro W
                    go_simp
                  try simp only [Act.put, List.setIfInBounds_toArray, List.set_cons_zero, List.set_cons_succ]
                  refine wpAny_take (i := 12) (oi := ⟨some 32, _, _, _, _, _⟩) (v := (.iface 80 (.pointer (some ⟨b3, 0, none⟩)))) rfl (by kernel_rfl) (by kernel_rfl) (by kernel_rfl) (fun _ _ _ h => h) (Or.inl ⟨by rfl, ?_⟩) ?_
                  · intro W
                    go_simp
                  try simp only [Act.put, List.setIfInBounds_toArray, List.set_cons_zero, List.set_cons_succ]
                  refine wpAny_ready (rs := [14]) (by kernel_rfl) (by simp) ?_
                  refine AllReady.cons (o := ⟨none, _, _, _, _, _⟩) rfl (fun K hK => ?_) ?_
                  · refine step_store_pk rfl (.tmp 9) (.tmp 31) rfl _ noPkt rfl rfl (M3.out.x _ rfl).1 rfl ?_
                    refine hK _ _ ?_
                    clear hK K
                    try simp only [Act.put]
                    refine wpAny_take (i := 15) (oi := ⟨some 10, _, _, _, _, _⟩) (v := (.iface 80 (.pointer (some ⟨b3, 0, none⟩)))) rfl (by kernel_rfl) (by kernel_rfl) (by kernel_rfl) (fun _ _ _ h => h) (Or.inl ⟨by rfl, ?_⟩) ?_
                    · intro W
                      go_simp
                    try simp only [Act.put, List.setIfInBounds_toArray, List.set_cons_zero, List.set_cons_succ]
                    refine wpAny_done (by kernel_rfl) ?_ _
                    go_wp2_with fail
                    go_meet
                    obtain ⟨x1, x2, x3⟩ := M3.out.x _ rfl
                    exact ⟨_, _, rfl, rfl, pk_stored x1 noPkt, HC8.out.row x1 (pktRow_plain noPkt), below_arow M3.out.mine.old x3 _⟩
                  exact AllReady.nil
                exact AllReady.nil
              exact AllReady.nil
            refine AllReady.cons (o := ⟨some 9, _, _, _, _, _⟩) rfl (fun K hK => ?_) ?_
            · go_simp
              refine hK _ _ ?_
              clear hK K
              try simp only [Act.put, List.setIfInBounds_toArray, List.set_cons_zero, List.set_cons_succ]
              refine wpAny_ready (rs := [8]) (by kernel_rfl) (by simp) ?_
              refine AllReady.cons (o := ⟨some 29, _, _, _, _, _⟩) rfl (fun K hK => ?_) ?_
              · refine step_append_ak rfl (.tmp 23) (.tmp 28) rfl rfl _ _ p.bs ms _ 28 T rfl rfl rfl ⟨M1.out.alloc, MR.out _ M1.out.alloc.mine.old⟩ HL1.out (HTT.out.symm.trans HT.out) 29 rfl ?_
                intro g2 d2 w7 h2
                have M2 := Lib.hid h2
                clear h2
                refine hK _ _ ?_
                clear hK K
                try simp only [Act.put, List.setIfInBounds_toArray, List.set_cons_zero, List.set_cons_succ]
                refine wpAny_ready (rs := [9]) (by kernel_rfl) (by simp) ?_
                refine AllReady.cons (o := ⟨some 30, _, _, _, _, _⟩) rfl (fun K hK => ?_) ?_
                · have XA := Lib.hid (XP.out _ _ _ _ M2.out)
                  go_wp2_with (go_at_call 9; (with_reducible refine XA.out.mono ?_); rintro e w8 ⟨b3, rfl, hc3, hl3⟩; (have M3 := Lib.hid (M2.out.below hl3)); (have HC8 := Lib.hid hc3); clear hl3 hc3)
                  refine wpAny_take (i := 10) (oi := ⟨some 20, _, _, _, _, _⟩) (v := (.tuple #[.agg #[.int .u16 0, .int .u8 0, .int .u8 0, .int .u8 0, .int .u8 0, .int .u8 0, .int .u8 0, .int .u32 0, .int .u8 0, .int .u8 0, .int .u8 0, .int .u8 0, .int .u8 0, .int .u8 0, .int .u32 0], (.iface 80 (.pointer (some ⟨b3, 0, none⟩)))])) rfl (by kernel_rfl) (by kernel_rfl) (by kernel_rfl) (fun _ _ _ h => h) (Or.inl ⟨by rfl, ?_⟩) ?_
                  · intro W
                    go_simp
                  try simp only [Act.put, List.setIfInBounds_toArray, List.set_cons_zero, List.set_cons_succ]
                  refine wpAny_take (i := 11) (oi := ⟨some 31, _, _, _, _, _⟩) (v := (.agg #[.int .u16 0, .int .u8 0, .int .u8 0, .int .u8 0, .int .u8 0, .int .u8 0, .int .u8 0, .int .u32 0, .int .u8 0, .int .u8 0, .int .u8 0, .int .u8 0, .int .u8 0, .int .u8 0, .int .u32 0])) rfl (by kernel_rfl) (by kernel_rfl) (by kernel_rfl) (fun _ _ _ h => h) (Or.inl ⟨by rfl, ?_⟩) ?_
                  · intro W
                    go_simp
                  try simp only [Act.put, List.setIfInBounds_toArray, List.set_cons_zero, List.set_cons_succ]
                  refine wpAny_take (i := 12) (oi := ⟨some 32, _, _, _, _, _⟩) (v := (.iface 80 (.pointer (some ⟨b3, 0, none⟩)))) rfl (by kernel_rfl) (by kernel_rfl) (by kernel_rfl) (fun _ _ _ h => h) (Or.inl ⟨by rfl, ?_⟩) ?_
                  · intro W
                    go_simp
                  try simp only [Act.put, List.setIfInBounds_toArray, List.set_cons_zero, List.set_cons_succ]
                  refine wpAny_ready (rs := [14]) (by kernel_rfl) (by simp) ?_
                  refine AllReady.cons (o := ⟨none, _, _, _, _, _⟩) rfl (fun K hK => ?_) ?_
                  · refine step_store_pk rfl (.tmp 9) (.tmp 31) rfl _ noPkt rfl rfl (M3.out.x _ rfl).1 rfl ?_
                    refine hK _ _ ?_
                    clear hK K
                    try simp only [Act.put]
                    refine wpAny_take (i := 15) (oi := ⟨some 10, _, _, _, _, _⟩) (v := (.iface 80 (.pointer (some ⟨b3, 0, none⟩)))) rfl (by kernel_rfl) (by kernel_rfl) (by kernel_rfl) (fun _ _ _ h => h) (Or.inl ⟨by rfl, ?_⟩) ?_
                    · intro W
                      go_simp
                    try simp only [Act.put, List.setIfInBounds_toArray, List.set_cons_zero, List.set_cons_succ]
                    refine wpAny_done (by kernel_rfl) ?_ _
                    go_wp2_with fail
                    go_meet
                    obtain ⟨x1, x2, x3⟩ := M3.out.x _ rfl
                    exact ⟨_, _, rfl, rfl, pk_stored x1 noPkt, HC8.out.row x1 (pktRow_plain noPkt), below_arow M3.out.mine.old x3 _⟩
                  exact AllReady.nil
                exact AllReady.nil
              exact AllReady.nil
            exact AllReady.nil
          refine AllReady.cons (o := ⟨some 9, _, _, _, _, _⟩) rfl (fun K hK => ?_) ?_
          · go_simp
            refine hK _ _ ?_
            clear hK K
            try simp only [Act.put, List.setIfInBounds_toArray, List.set_cons_zero, List.set_cons_succ]
            refine wpAny_ready (rs := [2]) (by kernel_rfl) (by simp) ?_
            refine AllReady.cons (o := ⟨some 23, _, _, _, _, _⟩) rfl (fun K hK => ?_) ?_
            · refine step_append_ak rfl (.tmp 21) (.tmp 22) rfl rfl _ _ [] p.bs _ 0 28 rfl rfl rfl ⟨M0b.out, SR.out _ M0b.out.mine.old⟩ HL0.out rfl 23 rfl ?_
              intro g1 d1 w6 h1
              have M1 := Lib.hid (show Ak w5 w6 g1 d1 p.bs _ from h1)
              clear h1
              refine hK _ _ ?_
              clear hK K
              try simp only [Act.put, List.setIfInBounds_toArray, List.set_cons_zero, List.set_cons_succ]
              refine wpAny_ready (rs := [8]) (by kernel_rfl) (by simp) ?_
              refine AllReady.cons (o := ⟨some 29, _, _, _, _, _⟩) rfl (fun K hK => ?_) ?_
              · refine step_append_ak rfl (.tmp 23) (.tmp 28) rfl rfl _ _ p.bs ms _ 28 T rfl rfl rfl ⟨M1.out, MR.out _ M1.out.mine.old⟩ HL1.out (HTT.out.symm.trans HT.out) 29 rfl ?_
                intro g2 d2 w7 h2
                have M2 := Lib.hid h2
                clear h2
                refine hK _ _ ?_
                clear hK K
                try simp only [Act.put, List.setIfInBounds_toArray, List.set_cons_zero, List.set_cons_succ]
                refine wpAny_ready (rs := [9]) (by kernel_rfl) (by simp) ?_
                refine AllReady.cons (o := ⟨some 30, _, _, _, _, _⟩) rfl (fun K hK => ?_) ?_
                · have XA := Lib.hid (XP.out _ _ _ _ M2.out)
                  go_wp2_with (go_at_call 9; (with_reducible refine XA.out.mono ?_); rintro e w8 ⟨b3, rfl, hc3, hl3⟩; (have M3 := Lib.hid (M2.out.below hl3)); (have HC8 := Lib.hid hc3); clear hl3 hc3)
                  refine wpAny_take (i := 10) (oi := ⟨some 20, _, _, _, _, _⟩) (v := (.tuple #[.agg #[.int .u16 0, .int .u8 0, .int .u8 0, .int .u8 0, .int .u8 0, .int .u8 0, .int .u8 0, .int .u32 0, .int .u8 0, .int .u8 0, .int .u8 0, .int .u8 0, .int .u8 0, .int .u8 0, .int .u32 0], (.iface 80 (.pointer (some ⟨b3, 0, none⟩)))])) rfl (by kernel_rfl) (by kernel_rfl) (by kernel_rfl) (fun _ _ _ h => h) (Or.inl ⟨by rfl, ?_⟩) ?_
                  · intro W
                    go_simp
                  try simp only [Act.put, List.setIfInBounds_toArray, List.set_cons_zero, List.set_cons_succ]
                  refine wpAny_take (i := 11) (oi := ⟨some 31, _, _, _, _, _⟩) (v := (.agg #[.int .u16 0, .int .u8 0, .int .u8 0, .int .u8 0, .int .u8 0, .int .u8 0, .int .u8 0, .int .u32 0, .int .u8 0, .int .u8 0, .int .u8 0, .int .u8 0, .int .u8 0, .int .u8 0, .int .u32 0])) rfl (by kernel_rfl) (by kernel_rfl) (by kernel_rfl) (fun _ _ _ h => h) (Or.inl ⟨by rfl, ?_⟩) ?_
                  · intro W
                    go_simp
                  try simp only [Act.put, List.setIfInBounds_toArray, List.set_cons_zero, List.set_cons_succ]
                  refine wpAny_take (i := 12) (oi := ⟨some 32, _, _, _, _, _⟩) (v := (.iface 80 (.pointer (some ⟨b3, 0, none⟩)))) rfl (by kernel_rfl) (by kernel_rfl) (by kernel_rfl) (fun _ _ _ h => h) (Or.inl ⟨by rfl, ?_⟩) ?_
                  · intro W
                    go_simp
                  try simp only [Act.put, List.setIfInBounds_toArray, List.set_cons_zero, List.set_cons_succ]
                  refine wpAny_ready (rs := [14]) (by kernel_rfl) (by simp) ?_
                  refine AllReady.cons (o := ⟨none, _, _, _, _, _⟩) rfl (fun K hK => ?_) ?_
                  · refine step_store_pk rfl (.tmp 9) (.tmp 31) rfl _ noPkt rfl rfl (M3.out.x _ rfl).1 rfl ?_
                    refine hK _ _ ?_
                    clear hK K
                    try simp only [Act.put]
                    refine wpAny_take (i := 15) (oi := ⟨some 10, _, _, _, _, _⟩) (v := (.iface 80 (.pointer (some ⟨b3, 0, none⟩)))) rfl (by kernel_rfl) (by kernel_rfl) (by kernel_rfl) (fun _ _ _ h => h) (Or.inl ⟨by rfl, ?_⟩) ?_
                    · intro W
                      go_simp
                    try simp only [Act.put, List.setIfInBounds_toArray, List.set_cons_zero, List.set_cons_succ]
                    refine wpAny_done (by kernel_rfl) ?_ _
                    go_wp2_with fail
                    go_meet
                    obtain ⟨x1, x2, x3⟩ := M3.out.x _ rfl
                    exact ⟨_, _, rfl, rfl, pk_stored x1 noPkt, HC8.out.row x1 (pktRow_plain noPkt), below_arow M3.out.mine.old x3 _⟩
                  exact AllReady.nil
                exact AllReady.nil
              exact AllReady.nil
            exact AllReady.nil
          exact AllReady.nil
        refine AllReady.cons (o := ⟨some 9, _, _, _, _, _⟩) rfl (fun K hK => ?_) ?_
        · go_simp
          refine hK _ _ ?_
          clear hK K
          try simp only [Act.put, List.setIfInBounds_toArray, List.set_cons_zero, List.set_cons_succ]
          refine wpAny_ready (rs := [0]) (by kernel_rfl) (by simp) ?_
          refine AllReady.cons (o := ⟨some 21, _, _, _, _, _⟩) rfl (fun K hK => ?_) ?_
          · go_simp
            refine hK _ _ ?_
            clear hK K
            try simp only [Act.put, List.setIfInBounds_toArray, List.set_cons_zero, List.set_cons_succ]
            refine wpAny_ready (rs := [2]) (by kernel_rfl) (by simp) ?_
            refine AllReady.cons (o := ⟨some 23, _, _, _, _, _⟩) rfl (fun K hK => ?_) ?_
            · refine step_append_ak rfl (.tmp 21) (.tmp 22) rfl rfl _ _ [] p.bs _ 0 28 rfl rfl rfl ⟨M0c.out, SR.out _ M0c.out.mine.old⟩ HL0.out rfl 23 rfl ?_
              intro g1 d1 w6 h1
              have M1 := Lib.hid (show Ak w5 w6 g1 d1 p.bs _ from h1)
              clear h1
              refine hK _ _ ?_
              clear hK K
              try simp only [Act.put, List.setIfInBounds_toArray, List.set_cons_zero, List.set_cons_succ]
              refine wpAny_ready (rs := [8]) (by kernel_rfl) (by simp) ?_
              refine AllReady.cons (o := ⟨some 29, _, _, _, _, _⟩) rfl (fun K hK => ?_) ?_
              · refine step_append_ak rfl (.tmp 23) (.tmp 28) rfl rfl _ _ p.bs ms _ 28 T rfl rfl rfl ⟨M1.out, MR.out _ M1.out.mine.old⟩ HL1.out (HTT.out.symm.trans HT.out) 29 rfl ?_
                intro g2 d2 w7 h2
                have M2 := Lib.hid h2
                clear h2
                refine hK _ _ ?_
                clear hK K
                try simp only [Act.put, List.setIfInBounds_toArray, List.set_cons_zero, List.set_cons_succ]
                refine wpAny_ready (rs := [9]) (by kernel_rfl) (by simp) ?_
                refine AllReady.cons (o := ⟨some 30, _, _, _, _, _⟩) rfl (fun K hK => ?_) ?_
                · have XA := Lib.hid (XP.out _ _ _ _ M2.out)
                  go_wp2_with (go_at_call 9; (with_reducible refine XA.out.mono ?_); rintro e w8 ⟨b3, rfl, hc3, hl3⟩; (have M3 := Lib.hid (M2.out.below hl3)); (have HC8 := Lib.hid hc3); clear hl3 hc3)
                  refine wpAny_take (i := 10) (oi := ⟨some 20, _, _, _, _, _⟩) (v := (.tuple #[.agg #[.int .u16 0, .int .u8 0, .int .u8 0, .int .u8 0, .int .u8 0, .int .u8 0, .int .u8 0, .int .u32 0, .int .u8 0, .int .u8 0, .int .u8 0, .int .u8 0, .int .u8 0, .int .u8 0, .int .u32 0], (.iface 80 (.pointer (some ⟨b3, 0, none⟩)))])) rfl (by kernel_rfl) (by kernel_rfl) (by kernel_rfl) (fun _ _ _ h => h) (Or.inl ⟨by rfl, ?_⟩) ?_
                  · intro W
                    go_simp
                  try simp only [Act.put, List.setIfInBounds_toArray, List.set_cons_zero, List.set_cons_succ]
                  refine wpAny_take (i := 11) (oi := ⟨some 31, _, _, _, _, _⟩) (v := (.agg #[.int .u16 0, .int .u8 0, .int .u8 0, .int .u8 0, .int .u8 0, .int .u8 0, .int .u8 0, .int .u32 0, .int .u8 0, .int .u8 0, .int .u8 0, .int .u8 0, .int .u8 0, .int .u8 0, .int .u32 0])) rfl (by kernel_rfl) (by kernel_rfl) (by kernel_rfl) (fun _ _ _ h => h) (Or.inl ⟨by rfl, ?_⟩) ?_
                  · intro W
                    go_simp
                  try simp only [Act.put, List.setIfInBounds_toArray, List.set_cons_zero, List.set_cons_succ]
                  refine wpAny_take (i := 12) (oi := ⟨some 32, _, _, _, _, _⟩) (v := (.iface 80 (.pointer (some ⟨b3, 0, none⟩)))) rfl (by kernel_rfl) (by kernel_rfl) (by kernel_rfl) (fun _ _ _ h => h) (Or.inl ⟨by rfl, ?_⟩) ?_
                  · intro W
                    go_simp
                  try simp only [Act.put, List.setIfInBounds_toArray, List.set_cons_zero, List.set_cons_succ]
                  refine wpAny_ready (rs := [14]) (by kernel_rfl) (by simp) ?_
                  refine AllReady.cons (o := ⟨none, _, _, _, _, _⟩) rfl (fun K hK => ?_) ?_
                  · refine step_store_pk rfl (.tmp 9) (.tmp 31) rfl _ noPkt rfl rfl (M3.out.x _ rfl).1 rfl ?_
                    refine hK _ _ ?_
                    clear hK K
                    try simp only [Act.put]
                    refine wpAny_take (i := 15) (oi := ⟨some 10, _, _, _, _, _⟩) (v := (.iface 80 (.pointer (some ⟨b3, 0, none⟩)))) rfl (by kernel_rfl) (by kernel_rfl) (by kernel_rfl) (fun _ _ _ h => h) (Or.inl ⟨by rfl, ?_⟩) ?_
                    · intro W
                      go_simp
                    try simp only [Act.put, List.setIfInBounds_toArray, List.set_cons_zero, List.set_cons_succ]
                    refine wpAny_done (by kernel_rfl) ?_ _
                    go_wp2_with fail
                    go_meet
                    obtain ⟨x1, x2, x3⟩ := M3.out.x _ rfl
                    exact ⟨_, _, rfl, rfl, pk_stored x1 noPkt, HC8.out.row x1 (pktRow_plain noPkt), below_arow M3.out.mine.old x3 _⟩
                  exact AllReady.nil
                exact AllReady.nil
              exact AllReady.nil
            exact AllReady.nil
          exact AllReady.nil
        exact AllReady.nil
      case rest =>
        obtain ⟨kx, b3, rfl, rfl, _, hc6, hb6⟩ := hcut
        generalize wc = w6 at *
        have HX6 := Lib.hid (HX.out.below hb6)
        have HB6 := Lib.hid (below_on HB.out HW.out hb6)
        have HC6 := Lib.hid hc6
        clear hc6 hb6 HX HB HC HM
        have d0 := HX6.out.cells.1
        have o1 : ((p.op : Int) == 1) = false := by simp; exact fun h => HO.out (.inl (by omega))
        have o2 : ((p.op : Int) == 2) = false := by simp; exact fun h => HO.out (.inr (by omega))
        go_upto_region 7 with fail
        clear d0 o1 o2
        go_wp2_with fail
        refine (code_any 3 _ _ _ (HG.out.below (by rw [HW.out]; exact HB6.out)) HC6.out).mono ?_
        rintro e w7 ⟨rfl, hl7⟩
        have HB7 := Lib.hid (below_on HB6.out HW.out hl7)
        clear hl7 HB6 HC6 HX6
        go_upto_region 9 with fail
        obtain ⟨r1, r2, r3, r4, r5⟩ := H2.out
        have hm2 := HMIN2.out
        have r6 : ls.length ≤ c2 := by omega
        have r7 : ¬ c2 < ls.length := by omega
        have r8 : (ls.length : Int) ≤ (c2 : Int) := by omega
        have HRL : Hid (Rd w7 (.slice A2 ls.length c2) ls) := HR2.out.below (by rw [HW.out]; exact HB7.out)
        go_upto_region 10 with fail
        clear r1 r2 r3 r4 r5 hm2
        rcases aParse_kind ls H2.out.2.1 with hkd | ⟨z, hz, hzl, hzb, hkd⟩
        · as_aux_lemma =>
            have XK := Lib.hid (hkd _ w7 HRL.out)
            clear hkd
            go_wp2_with fail
            refine XK.out.mono ?_
            rintro e w9 ⟨n9, l9, b9, he, _, hl9⟩
            have he' : e = .returned (.tuple #[.agg #[.int .u16 0, .int .u8 0, .int .u8 0, .int .u8 0, .int .u8 0, .int .u8 0, .int .u8 0, .int .u32 0, .int .u8 0, .int .u8 0, .int .u8 0, .int .u8 0, .int .u8 0, .int .u8 0, .int .u32 0], .iface 80 (.pointer (some ⟨b9, 0, none⟩))]) := he
            subst he'
            have hb10 := below_al (Below.refl w9.heap.size w9) (.cells #[.int .u16 0, .int .u8 0, .int .u8 0, .int .u8 0, .int .u8 0, .int .u8 0, .int .u8 0, .int .u32 0, .int .u8 0, .int .u8 0, .int .u8 0, .int .u8 0, .int .u8 0, .int .u8 0, .int .u32 0] 29)
            have HB10 := Lib.hid (below_on HB7.out HW.out (below_to hl9 hb10 hl9.size))
            clear he hl9 hb10 XK HRL
            go_upto_region 11 with fail
            generalize w9.alloc (.cells #[.int .u16 0, .int .u8 0, .int .u8 0, .int .u8 0, .int .u8 0, .int .u8 0, .int .u8 0, .int .u32 0, .int .u8 0, .int .u8 0, .int .u8 0, .int .u8 0, .int .u8 0, .int .u8 0, .int .u32 0] 29) = W10 at *
            generalize w9.heap.size = g10 at *
            go_quiet (fail)
            go_wp2_with fail
            go_ret
            exact ⟨rfl, by rw [HW.out]; exact ⟨HB10.out.os, HB10.out.tape, HB10.out.output, HB10.out.size, HB10.out.block⟩⟩
        · as_aux_lemma =>
            have XK := Lib.hid (hkd _ w7 HRL.out)
            have HZ := Lib.hid hz
            have HZB : Hid (z.bs = ls.take 28) := hzb
            have hz1 : (28 : Int) ≤ (ls.length : Int) := by omega
            have hz2 : (ls.length : Int) ≤ 100 := by have := H2.out.2.1; omega
            have HZL := Lib.hid hzl
            clear hkd hz hzb hzl
            go_wp2_with fail
            refine XK.out.mono ?_
            rintro e w9 ⟨he, hl9⟩
            have he' : e = .returned (.tuple #[.agg #[.int .u16 z.op, .int .u8 z.sha.a.toNat, .int .u8 z.sha.b.toNat, .int .u8 z.sha.c.toNat, .int .u8 z.sha.d.toNat, .int .u8 z.sha.e.toNat, .int .u8 z.sha.f.toNat, .int .u32 z.spa, .int .u8 z.tha.a.toNat, .int .u8 z.tha.b.toNat, .int .u8 z.tha.c.toNat, .int .u8 z.tha.d.toNat, .int .u8 z.tha.e.toNat, .int .u8 z.tha.f.toNat, .int .u32 z.tpa], .nilIface]) := he
            subst he'
            have hb10 := below_al (Below.refl w9.heap.size w9) (.cells #[.int .u16 z.op, .int .u8 z.sha.a.toNat, .int .u8 z.sha.b.toNat, .int .u8 z.sha.c.toNat, .int .u8 z.sha.d.toNat, .int .u8 z.sha.e.toNat, .int .u8 z.sha.f.toNat, .int .u32 z.spa, .int .u8 z.tha.a.toNat, .int .u8 z.tha.b.toNat, .int .u8 z.tha.c.toNat, .int .u8 z.tha.d.toNat, .int .u8 z.tha.e.toNat, .int .u8 z.tha.f.toNat, .int .u32 z.tpa] 29)
            have HX10 : Hid (PktAt (w9.alloc (.cells #[.int .u16 z.op, .int .u8 z.sha.a.toNat, .int .u8 z.sha.b.toNat, .int .u8 z.sha.c.toNat, .int .u8 z.sha.d.toNat, .int .u8 z.sha.e.toNat, .int .u8 z.sha.f.toNat, .int .u32 z.spa, .int .u8 z.tha.a.toNat, .int .u8 z.tha.b.toNat, .int .u8 z.tha.c.toNat, .int .u8 z.tha.d.toNat, .int .u8 z.tha.e.toNat, .int .u8 z.tha.f.toNat, .int .u32 z.tpa] 29)) w9.heap.size z) := PktAt.new w9 z
            have HRL10 := Lib.hid (HRL.out.below (below_to hl9 hb10 hl9.size))
            have HB10 := Lib.hid (below_on HB7.out HW.out (below_to hl9 hb10 hl9.size))
            have HS10 : Hid (n ≤ (w9.alloc (.cells #[.int .u16 z.op, .int .u8 z.sha.a.toNat, .int .u8 z.sha.b.toNat, .int .u8 z.sha.c.toNat, .int .u8 z.sha.d.toNat, .int .u8 z.sha.e.toNat, .int .u8 z.sha.f.toNat, .int .u32 z.spa, .int .u8 z.tha.a.toNat, .int .u8 z.tha.b.toNat, .int .u8 z.tha.c.toNat, .int .u8 z.tha.d.toNat, .int .u8 z.tha.e.toNat, .int .u8 z.tha.f.toNat, .int .u32 z.tpa] 29)).heap.size) := by have := HB10.out.size; rw [HW.out] at this; exact this
            clear he hl9 hb10 XK HRL
            go_upto_region 11 with fail
            generalize w9.alloc (.cells #[.int .u16 z.op, .int .u8 z.sha.a.toNat, .int .u8 z.sha.b.toNat, .int .u8 z.sha.c.toNat, .int .u8 z.sha.d.toNat, .int .u8 z.sha.e.toNat, .int .u8 z.sha.f.toNat, .int .u32 z.spa, .int .u8 z.tha.a.toNat, .int .u8 z.tha.b.toNat, .int .u8 z.tha.c.toNat, .int .u8 z.tha.d.toNat, .int .u8 z.tha.e.toNat, .int .u8 z.tha.f.toNat, .int .u32 z.tpa] 29) = W10 at *
            generalize w9.heap.size = g10 at *
            have KS : Hid (∀ W', Below W10.heap.size W10 W' → W'.cell? ⟨g10, 0, none⟩ = some (.int .u16 z.op) ∧ W'.cell? ⟨g10, 1, none⟩ = some (.int .u8 z.sha.a.toNat) ∧ W'.cell? ⟨g10, 2, none⟩ = some (.int .u8 z.sha.b.toNat) ∧ W'.cell? ⟨g10, 3, none⟩ = some (.int .u8 z.sha.c.toNat) ∧ W'.cell? ⟨g10, 4, none⟩ = some (.int .u8 z.sha.d.toNat) ∧ W'.cell? ⟨g10, 5, none⟩ = some (.int .u8 z.sha.e.toNat) ∧ W'.cell? ⟨g10, 6, none⟩ = some (.int .u8 z.sha.f.toNat) ∧ W'.cell? ⟨g10, 7, none⟩ = some (.int .u32 z.spa) ∧ W'.cell? ⟨g10, 8, none⟩ = some (.int .u8 z.tha.a.toNat) ∧ W'.cell? ⟨g10, 9, none⟩ = some (.int .u8 z.tha.b.toNat) ∧ W'.cell? ⟨g10, 10, none⟩ = some (.int .u8 z.tha.c.toNat) ∧ W'.cell? ⟨g10, 11, none⟩ = some (.int .u8 z.tha.d.toNat) ∧ W'.cell? ⟨g10, 12, none⟩ = some (.int .u8 z.tha.e.toNat) ∧ W'.cell? ⟨g10, 13, none⟩ = some (.int .u8 z.tha.f.toNat) ∧ W'.cell? ⟨g10, 14, none⟩ = some (.int .u32 z.tpa)) := fun W' h => (HX10.out.below h).cells
            have X1 := Lib.hid (aBytes_lit z HZ.out W10.drew)
            have RL : Hid (∀ W', Below W10.heap.size W10 W' → (convert 22 9 (.slice A2 28 c2)).run Tryd.prog W' = .ok (.string (txt z.bs)) W') := fun W' h => by
              rw [HZB.out]
              exact convert_rd ((HRL10.out.below h).front (K := 28) HZL.out)
            have v0 := RL.out W10.drew (below_drew W10)
            obtain ⟨tt, htt⟩ : ∃ t, txt z.bs = t := ⟨_, rfl⟩
            have HTT := Lib.hid htt
            rw [htt] at v0
            clear htt HX10
            go_region_held_law (fun W' => W'.cell? ⟨g10, 0, none⟩ = some (.int .u16 z.op) ∧ W'.cell? ⟨g10, 1, none⟩ = some (.int .u8 z.sha.a.toNat) ∧ W'.cell? ⟨g10, 2, none⟩ = some (.int .u8 z.sha.b.toNat) ∧ W'.cell? ⟨g10, 3, none⟩ = some (.int .u8 z.sha.c.toNat) ∧ W'.cell? ⟨g10, 4, none⟩ = some (.int .u8 z.sha.d.toNat) ∧ W'.cell? ⟨g10, 5, none⟩ = some (.int .u8 z.sha.e.toNat) ∧ W'.cell? ⟨g10, 6, none⟩ = some (.int .u8 z.sha.f.toNat) ∧ W'.cell? ⟨g10, 7, none⟩ = some (.int .u32 z.spa) ∧ W'.cell? ⟨g10, 8, none⟩ = some (.int .u8 z.tha.a.toNat) ∧ W'.cell? ⟨g10, 9, none⟩ = some (.int .u8 z.tha.b.toNat) ∧ W'.cell? ⟨g10, 10, none⟩ = some (.int .u8 z.tha.c.toNat) ∧ W'.cell? ⟨g10, 11, none⟩ = some (.int .u8 z.tha.d.toNat) ∧ W'.cell? ⟨g10, 12, none⟩ = some (.int .u8 z.tha.e.toNat) ∧ W'.cell? ⟨g10, 13, none⟩ = some (.int .u8 z.tha.f.toNat) ∧ W'.cell? ⟨g10, 14, none⟩ = some (.int .u32 z.tpa))
              (first | assumption | exact KS.out _ HL11.out | exact KS.out _ (below_drew W10))
              (first
                | (go_at_call 13; (with_reducible refine X1.out.mono ?_); rintro e w11 ⟨b11, rfl, _, ho11, hl11⟩; (have HL11 := Lib.hid ((below_drew W10).trans hl11)); (have v1 := convert_rd (show Rd w11 (.slice (some ⟨b11, 0, none⟩) 28 28) z.bs from Rd.of_obj ho11 (Nat.le_refl _))); (have v2 := RL.out w11 HL11.out); rw [HTT.out] at v1 v2; clear ho11 hl11))
            all_goals
              go_wp2_with fail
              go_ret
              exact ⟨rfl, by rw [HW.out]; exact below_to HB10.out HL11.out HS10.out⟩
end Go.Proofs.YtpmdnpgeohigoaaDoor
