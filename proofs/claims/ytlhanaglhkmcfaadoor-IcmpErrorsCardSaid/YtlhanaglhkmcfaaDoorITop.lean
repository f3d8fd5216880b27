/-
  What is proved: icmp.Parse by contract: bytes that end too early, a sum that is another one, the bytes of a message.
  Conditions: the bytes are fewer than 2^40.
-/
import Derived.Test.YtlhanaglhkmcfaaDoorIParse
namespace Go.Proofs.YtlhanaglhkmcfaaDoor
open Go.RowKit

/-- An error of icmp's own. -/
def MW (n : Int) (l : List ByteArray) (w : World) (e : Ending) (w' : World) : Prop := ∃ b, e = .returned (.tuple #[.agg #[.int .u8 0, .int .u8 0, .int .u32 0, .slice none 0 0], .iface 87 (.pointer (some ⟨b, 0, none⟩))]) ∧ Chain w' n l (.iface 87 (.pointer (some ⟨b, 0, none⟩))) ∧ Below w.heap.size w w'
set_option maxRecDepth 100000 in
set_option maxHeartbeats 2000000 in
theorem iParse_err {n : Int} {l : List ByteArray} {v : Value} {w : World} (hu : ∀ W, Below w.heap.size w W → Calls Tryd.prog 18 #[v] W (MErr n l W)) :
    Calls Tryd.prog 7 #[v] w (MW n (icmpWord :: l) w) := by
  have hx := MsAt.new w noMs (.slice none 0 0)
  rw [noMs_obj] at hx
  have HX := Lib.hid hx
  have HB := Lib.hid (below_al (Below.refl w.heap.size w) noMsObj)
  have HU := Lib.hid (hu _ HB.out)
  clear hu hx
  generalize hW : w.alloc noMsObj = W at HX HB HU
  unfold noMsObj at hW
  unfold MErr noMsVal at HU
  unfold MW icmpWord
  go_enter Tryd.func7, Tryd.ntmps7
  go_upto_region 1 with fail
  clear hW
  go_wp2_with fail
  refine HU.out.mono ?_
  rintro e w1 ⟨T, u, rfl, hc, hb⟩
  have hb2 := below_al (Below.refl w1.heap.size w1) noMsObj
  have HC := Lib.hid (hc.below hb2)
  have HZ0 := Lib.hid ((HX.out.below hb).below hb2)
  have HQ0 := Lib.hid (below_to HB.out (below_to hb hb2 hb.size) HB.out.size)
  have HM0 := Lib.hid (MsAt.new w1 noMs (.slice none 0 0))
  rw [noMs_obj] at HM0
  clear hc hb hb2 HU HX HB
  unfold noMsObj at HC HZ0 HQ0 HM0
  go_upto_region 2 with fail
  generalize hW2 : w1.alloc (.cells #[.int .u8 0, .int .u8 0, .int .u32 0, .slice none 0 0] 25) = w2 at *
  clear hW2
  have HM : Hid (MsAt w2 w1.heap.size noMs (.slice none 0 0)) := HM0.out
  have HC2 := Lib.hid (chain_wrapped (w := w2.drew) ⟨#[105, 99, 109, 112]⟩ (HC.out.below (below_drew w2)))
  have HZ2 : Hid (MsAt w2.drew w.heap.size noMs (.slice none 0 0)) := HZ0.out
  have hb3 := below_al (Below.refl w2.drew.heap.size w2.drew) (.cells #[.string ⟨#[105, 99, 109, 112]⟩, .iface T u] 89)
  have HZ3 := Lib.hid (HZ2.out.below hb3)
  have HM3 := Lib.hid (HM.out.below (below_al (Below.refl w2.heap.size w2) (.cells #[.string ⟨#[105, 99, 109, 112]⟩, .iface T u] 89)))
  have HQ2 : Hid (Below w.heap.size w w2.drew) := vbelow_dr HQ0.out
  have HQ3 := Lib.hid (below_to HQ2.out hb3 HQ2.out.size)
  have HC3 := HC2
  clear hb3 HC2
  refine wp_region_any (by kernel_rfl) ?_
  change wpAny _ _ _ _ _ _ _ (World.drew _)
  refine wpAny_take (i := 1) (oi := ⟨some 12, _, _, _, _, _⟩) (v := (.iface T u)) rfl (by kernel_rfl) (by kernel_rfl) (by kernel_rfl) (fun _ _ _ h => h) (Or.inl ⟨by rfl, ?_⟩) ?_
  · intro W
    go_simp
  try simp only [Act.put, List.setIfInBounds_toArray, List.set_cons_zero, List.set_cons_succ]
  refine wpAny_ready (rs := [0, 2]) (by kernel_rfl) (by simp) ?_
  refine AllReady.cons (o := ⟨some 11, _, _, _, _, _⟩) rfl (fun K hK => ?_) ?_
  · obtain ⟨d0, d1, d2, d3⟩ := MsAt.cells (W := w2.drew) HM.out
    unfold noMs at d0 d1 d2
    simp only at d0 d1 d2
    go_simp
    refine hK _ _ ?_
    clear hK K
    try simp only [Act.put, List.setIfInBounds_toArray, List.set_cons_zero, List.set_cons_succ]
    clear d0 d1 d2 d3
    refine wpAny_ready (rs := [2]) (by kernel_rfl) (by simp) ?_
    refine AllReady.cons (o := ⟨some 13, _, _, _, _, _⟩) rfl (fun K hK => ?_) ?_
    · have hk := Lib.hid hK
      clear hK
      go_simp
      go_at_call 19
      refine (wrap_any _ _ _ _).mono ?_
      rintro e w3 ⟨rfl, rfl⟩
      dsimp only
      refine hk.out _ _ ?_
      clear hk K
      try simp only [Act.put, List.setIfInBounds_toArray, List.set_cons_zero, List.set_cons_succ]
      refine wpAny_ready (rs := [3]) (by kernel_rfl) (by simp) ?_
      refine AllReady.cons (o := ⟨none, _, _, _, _, _⟩) rfl (fun K hK => ?_) ?_
      · refine step_store_row rfl 25 (.tmp 2) (.tmp 11) rfl w.heap.size noMsRow rfl rfl _ _ HZ3.out msSize rfl noMsRow_one rfl ?_
        refine hK _ _ ?_
        clear hK K
        try simp only [Act.put]
        refine wpAny_take (i := 4) (oi := ⟨some 3, _, _, _, _, _⟩) (v := (.iface 87 (.pointer (some ⟨w2.drew.heap.size, 0, none⟩)))) rfl (by kernel_rfl) (by kernel_rfl) (by kernel_rfl) (fun _ _ _ h => h) (Or.inl ⟨by rfl, ?_⟩) ?_
        · intro W
          go_simp
        try simp only [Act.put, List.setIfInBounds_toArray, List.set_cons_zero, List.set_cons_succ]
        refine wpAny_done (by kernel_rfl) ?_ _
        go_wp2_with fail
        (try simp only [Exit.inBlock, Exit.then])
        refine bodyPost_ret (results_cell_tmp_row rfl _ _ w.heap.size _ noMsRow (0, 0) _ rfl (setRow_heap _ _ _ _ _ _ HZ3.out) Tryd.underlying25 rfl msSize) rfl ?_
        exact ⟨_, rfl, HC3.out.row HZ3.out noMsRow_plain, ((Fr.of_below (p := fun _ => False) HQ3.out).row (Nat.le_refl _) _).below (Nat.le_refl _) (fun _ h => h.elim)⟩
      exact AllReady.nil
    exact AllReady.nil
  refine AllReady.cons (o := ⟨some 13, _, _, _, _, _⟩) rfl (fun K hK => ?_) ?_
  · have hk := Lib.hid hK
    clear hK
    go_simp
    go_at_call 19
    refine (wrap_any _ _ _ _).mono ?_
    rintro e w3 ⟨rfl, rfl⟩
    dsimp only
    refine hk.out _ _ ?_
    clear hk K
    try simp only [Act.put, List.setIfInBounds_toArray, List.set_cons_zero, List.set_cons_succ]
    refine wpAny_ready (rs := [0]) (by kernel_rfl) (by simp) ?_
    refine AllReady.cons (o := ⟨some 11, _, _, _, _, _⟩) rfl (fun K hK => ?_) ?_
    · obtain ⟨d0, d1, d2, d3⟩ := HM3.out.cells
      unfold noMs at d0 d1 d2
      simp only at d0 d1 d2
      go_simp
      refine hK _ _ ?_
      clear hK K
      try simp only [Act.put, List.setIfInBounds_toArray, List.set_cons_zero, List.set_cons_succ]
      clear d0 d1 d2 d3
      refine wpAny_ready (rs := [3]) (by kernel_rfl) (by simp) ?_
      refine AllReady.cons (o := ⟨none, _, _, _, _, _⟩) rfl (fun K hK => ?_) ?_
      · refine step_store_row rfl 25 (.tmp 2) (.tmp 11) rfl w.heap.size noMsRow rfl rfl _ _ HZ3.out msSize rfl noMsRow_one rfl ?_
        refine hK _ _ ?_
        clear hK K
        try simp only [Act.put]
        refine wpAny_take (i := 4) (oi := ⟨some 3, _, _, _, _, _⟩) (v := (.iface 87 (.pointer (some ⟨w2.drew.heap.size, 0, none⟩)))) rfl (by kernel_rfl) (by kernel_rfl) (by kernel_rfl) (fun _ _ _ h => h) (Or.inl ⟨by rfl, ?_⟩) ?_
        · intro W
          go_simp
        try simp only [Act.put, List.setIfInBounds_toArray, List.set_cons_zero, List.set_cons_succ]
        refine wpAny_done (by kernel_rfl) ?_ _
        go_wp2_with fail
        (try simp only [Exit.inBlock, Exit.then])
        refine bodyPost_ret (results_cell_tmp_row rfl _ _ w.heap.size _ noMsRow (0, 0) _ rfl (setRow_heap _ _ _ _ _ _ HZ3.out) Tryd.underlying25 rfl msSize) rfl ?_
        exact ⟨_, rfl, HC3.out.row HZ3.out noMsRow_plain, ((Fr.of_below (p := fun _ => False) HQ3.out).row (Nat.le_refl _) _).below (Nat.le_refl _) (fun _ h => h.elim)⟩
      exact AllReady.nil
    exact AllReady.nil
  exact AllReady.nil
set_option maxRecDepth 100000 in
set_option maxHeartbeats 2000000 in
theorem iParse_good {m : Ms} {v : Value} {w : World} (hu : ∀ W, Below w.heap.size w W → Calls Tryd.prog 18 #[v] W (MOk m W)) :
    Calls Tryd.prog 7 #[v] w (MOk m w) := by
  have hx := MsAt.new w noMs (.slice none 0 0)
  rw [noMs_obj] at hx
  have HX := Lib.hid hx
  have HB := Lib.hid (below_al (Below.refl w.heap.size w) noMsObj)
  have HU := Lib.hid (hu _ HB.out)
  have HG : Hid (w.heap.size < (w.alloc noMsObj).heap.size) := by show _ < _; simp
  clear hu hx
  generalize hW : w.alloc noMsObj = W at HX HB HU HG
  unfold noMsObj at hW
  unfold MOk at HU ⊢
  generalize hlen : m.b.length = k at *
  generalize m.b = pb at *
  clear hlen
  generalize m.typ = typ at *
  generalize m.code = code at *
  generalize m.rest = rest at *
  clear m
  go_enter Tryd.func7, Tryd.ntmps7
  go_upto_region 1 with fail
  clear hW
  go_wp2_with fail
  refine HU.out.mono ?_
  rintro e w1 ⟨b, rfl, hl, ho, hb⟩
  have H4 := Lib.hid (heap_alloc_new w1 (.cells #[.int .u8 typ, .int .u8 code, .int .u32 rest, .slice (some ⟨b, 0, none⟩) k k] 25))
  have hb2 := below_al (Below.refl w1.heap.size w1) (.cells #[.int .u8 typ, .int .u8 code, .int .u32 rest, .slice (some ⟨b, 0, none⟩) k k] 25)
  have HZ := Lib.hid ((HX.out.below hb).below hb2)
  have HQ := Lib.hid (below_to HB.out (below_to hb hb2 hb.size) HB.out.size)
  have HO := Lib.hid (ho.below hb2)
  have HL := Lib.hid hl
  clear hl ho hb hb2 HU HX HB
  go_upto_region 2 with fail
  generalize hW2 : w1.alloc (.cells #[.int .u8 typ, .int .u8 code, .int .u32 rest, .slice (some ⟨b, 0, none⟩) k k] 25) = w2 at *
  clear hW2
  have HM : Hid (MsAt w2 w1.heap.size ⟨typ, code, rest, []⟩ (.slice (some ⟨b, 0, none⟩) k k)) := H4.out
  have HZ2 : Hid (MsAt w2.drew w.heap.size noMs (.slice none 0 0)) := HZ.out
  have HO2 : Hid (BAt w2.drew b pb) := HO.out
  have HQ2 : Hid (Below w.heap.size w w2.drew) := vbelow_dr HQ.out
  refine wp_region_any (by kernel_rfl) ?_
  change wpAny _ _ _ _ _ _ _ (World.drew _)
  refine wpAny_take (i := 1) (oi := ⟨some 12, _, _, _, _, _⟩) (v := .nilIface) rfl (by kernel_rfl) (by kernel_rfl) (by kernel_rfl) (fun _ _ _ h => h) (Or.inl ⟨by rfl, ?_⟩) ?_
  · intro W
    go_simp
  try simp only [Act.put, List.setIfInBounds_toArray, List.set_cons_zero, List.set_cons_succ]
  refine wpAny_ready (rs := [0, 2]) (by kernel_rfl) (by simp) ?_
  refine AllReady.cons (o := ⟨some 11, _, _, _, _, _⟩) rfl (fun K hK => ?_) ?_
  · obtain ⟨d0, d1, d2, d3⟩ := MsAt.cells (W := w2.drew) HM.out
    simp only at d0 d1 d2 d3
    go_simp
    refine hK _ _ ?_
    clear hK K
    try simp only [Act.put, List.setIfInBounds_toArray, List.set_cons_zero, List.set_cons_succ]
    clear d0 d1 d2 d3
    refine wpAny_ready (rs := [2]) (by kernel_rfl) (by simp) ?_
    refine AllReady.cons (o := ⟨some 13, _, _, _, _, _⟩) rfl (fun K hK => ?_) ?_
    · have hk := Lib.hid hK
      clear hK
      go_simp
      go_at_call 19
      refine (wrap_nil _ _).mono ?_
      rintro e w3 ⟨rfl, rfl⟩
      dsimp only
      refine hk.out _ _ ?_
      clear hk K
      try simp only [Act.put, List.setIfInBounds_toArray, List.set_cons_zero, List.set_cons_succ]
      refine wpAny_ready (rs := [3]) (by kernel_rfl) (by simp) ?_
      refine AllReady.cons (o := ⟨none, _, _, _, _, _⟩) rfl (fun K hK => ?_) ?_
      · refine step_store_row rfl 25 (.tmp 2) (.tmp 11) rfl w.heap.size #[.int .u8 typ, .int .u8 code, .int .u32 rest, .slice (some ⟨b, 0, none⟩) k k] rfl rfl _ _ HZ2.out msSize rfl (by simp [Value.oneCell']) rfl ?_
        refine hK _ _ ?_
        clear hK K
        try simp only [Act.put]
        refine wpAny_take (i := 4) (oi := ⟨some 3, _, _, _, _, _⟩) (v := .nilIface) rfl (by kernel_rfl) (by kernel_rfl) (by kernel_rfl) (fun _ _ _ h => h) (Or.inl ⟨by rfl, ?_⟩) ?_
        · intro W
          go_simp
        try simp only [Act.put, List.setIfInBounds_toArray, List.set_cons_zero, List.set_cons_succ]
        refine wpAny_done (by kernel_rfl) ?_ _
        go_wp2_with fail
        (try simp only [Exit.inBlock, Exit.then])
        refine bodyPost_ret (results_cell_tmp_row rfl _ _ w.heap.size _ #[.int .u8 typ, .int .u8 code, .int .u32 rest, .slice (some ⟨b, 0, none⟩) k k] (0, 0) _ rfl (setRow_heap _ _ _ _ _ _ HZ2.out) Tryd.underlying25 rfl msSize) rfl ?_
        have h1 := HL.out
        have h2 := HG.out
        exact ⟨b, rfl, by omega, (setRow_other _ _ _ (by omega)).trans HO2.out, ((Fr.of_below (p := fun _ => False) HQ2.out).row (Nat.le_refl _) _).below (Nat.le_refl _) (fun _ h => h.elim)⟩
      exact AllReady.nil
    exact AllReady.nil
  refine AllReady.cons (o := ⟨some 13, _, _, _, _, _⟩) rfl (fun K hK => ?_) ?_
  · have hk := Lib.hid hK
    clear hK
    go_simp
    go_at_call 19
    refine (wrap_nil _ _).mono ?_
    rintro e w3 ⟨rfl, rfl⟩
    dsimp only
    refine hk.out _ _ ?_
    clear hk K
    try simp only [Act.put, List.setIfInBounds_toArray, List.set_cons_zero, List.set_cons_succ]
    refine wpAny_ready (rs := [0]) (by kernel_rfl) (by simp) ?_
    refine AllReady.cons (o := ⟨some 11, _, _, _, _, _⟩) rfl (fun K hK => ?_) ?_
    · obtain ⟨d0, d1, d2, d3⟩ := MsAt.cells (W := w2.drew) HM.out
      simp only at d0 d1 d2 d3
      go_simp
      refine hK _ _ ?_
      clear hK K
      try simp only [Act.put, List.setIfInBounds_toArray, List.set_cons_zero, List.set_cons_succ]
      clear d0 d1 d2 d3
      refine wpAny_ready (rs := [3]) (by kernel_rfl) (by simp) ?_
      refine AllReady.cons (o := ⟨none, _, _, _, _, _⟩) rfl (fun K hK => ?_) ?_
      · refine step_store_row rfl 25 (.tmp 2) (.tmp 11) rfl w.heap.size #[.int .u8 typ, .int .u8 code, .int .u32 rest, .slice (some ⟨b, 0, none⟩) k k] rfl rfl _ _ HZ2.out msSize rfl (by simp [Value.oneCell']) rfl ?_
        refine hK _ _ ?_
        clear hK K
        try simp only [Act.put]
        refine wpAny_take (i := 4) (oi := ⟨some 3, _, _, _, _, _⟩) (v := .nilIface) rfl (by kernel_rfl) (by kernel_rfl) (by kernel_rfl) (fun _ _ _ h => h) (Or.inl ⟨by rfl, ?_⟩) ?_
        · intro W
          go_simp
        try simp only [Act.put, List.setIfInBounds_toArray, List.set_cons_zero, List.set_cons_succ]
        refine wpAny_done (by kernel_rfl) ?_ _
        go_wp2_with fail
        (try simp only [Exit.inBlock, Exit.then])
        refine bodyPost_ret (results_cell_tmp_row rfl _ _ w.heap.size _ #[.int .u8 typ, .int .u8 code, .int .u32 rest, .slice (some ⟨b, 0, none⟩) k k] (0, 0) _ rfl (setRow_heap _ _ _ _ _ _ HZ2.out) Tryd.underlying25 rfl msSize) rfl ?_
        have h1 := HL.out
        have h2 := HG.out
        exact ⟨b, rfl, by omega, (setRow_other _ _ _ (by omega)).trans HO2.out, ((Fr.of_below (p := fun _ => False) HQ2.out).row (Nat.le_refl _) _).below (Nat.le_refl _) (fun _ h => h.elim)⟩
      exact AllReady.nil
    exact AllReady.nil
  exact AllReady.nil

theorem iParse_short (bs : List UInt8) (v : Value) (w : World) (hr : Rd w v bs) (hs : bs.length < 8) :
    Calls Tryd.prog 7 #[v] w (MW 2 [icmpWord, octetsWord] w) :=
  iParse_err fun W hb => iparse_short bs v W (hr.below hb) hs
theorem iParse_sum (bs : List UInt8) (v : Value) (w : World) (hr : Rd w v bs) (h8 : 8 ≤ bs.length) (hL : bs.length ≤ 1099511627776) (hk : ck bs ≠ 0) :
    Calls Tryd.prog 7 #[v] w (MW 4 [icmpWord] w) := by
  obtain ⟨t, c, s, r, x, ht, hc, hs, hr4, rfl⟩ := hi8_split bs h8
  exact iParse_err fun W hb => iparse_sum t c s r x ht hc hs hr4 v W (hr.below hb) hL hk
theorem iParse_of (m : Ms) (hm : m.In) (v : Value) (w : World) (hr : Rd w v m.bs) :
    Calls Tryd.prog 7 #[v] w (MOk m w) :=
  iParse_good fun W hb => iparse_ok m.typ m.code m.ck m.rest m.b hm.typ hm.code m.ck_lt hm.rest v W (hr.below hb) (by have h1 := m.bs_len; have h2 := hm.b; unfold Ms.bs at h1; omega) m.bs_ck
end Go.Proofs.YtlhanaglhkmcfaaDoor
