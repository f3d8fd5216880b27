/-
  What is proved: the law EtherTells answers true for any bytes and frame, and leaves all older memory as it was.
  Conditions: errors.errorType holds the handle of the type error; api.All holds six times 255; the slices are of fewer than 2^63 bytes.
-/
import Derived.Test.YtifjelinojndoaaDoorEFb
namespace Go.Proofs.YtifjelinojndoaaDoor
open Go.RowKit

set_option maxRecDepth 100000 in
set_option maxHeartbeats 16000000 in
theorem tells_any (A0 : Option Addr) (c0 : Nat) (l0 : List UInt8) (f0 : Frm) (A : Option Addr) (c : Nat) (w : World) (hg : Hdl w) (ha : AllAt w) (hr0 : Rd w (.slice A0 l0.length c0) l0) (hc0 : c0 ≤ 9223372036854775807)
    (hin : f0.In) (hr : Rd w (.slice A f0.b.length c) f0.b) (hc : c ≤ 9223372036854775807) :
    Calls Tryd.prog 3 #[.slice A0 l0.length c0, f0.val (.slice A f0.b.length c)] w fun e w' => e = .returned (.bool true) ∧ Below w.heap.size w w' := by
  obtain ⟨dst, src, vlan, ty, b⟩ := f0
  have hty0 : ty < 65536 := hin.ty
  simp only at hr ⊢
  have hlc := hr.cap_le
  have hlc0 := hr0.cap_le
  obtain ⟨bs, hbs, hbl, hr1⟩ := front_of b 10000 hr
  obtain ⟨ls, hls, hll, hr2⟩ := front_of l0 10000 hr0
  have hb0 : Below w.heap.size w (w.alloc (Frm.obj ⟨dst, src, vlan, ty, b⟩ (.slice A b.length c))) := below_al (Below.refl _ _) _
  have HS := Lib.hid (shown_any _ (hg.below hb0) (ha.below hb0))
  have HX0 := Lib.hid (BoxAt.new w ⟨dst, src, vlan, ty, b⟩ (.slice A b.length c))
  have HB0 := Lib.hid hb0
  have HR := Lib.hid hr1
  have HL := Lib.hid hr2
  have hmin := fun W => min_run (P := Tryd.prog) #[3, 3] 3 (l0.length : Int) 10000 (ls.length : Int) (by omega) W
  have HMIN := Lib.hid (fun W => min_run (P := Tryd.prog) #[3, 3] 3 (b.length : Int) 10000 (bs.length : Int) (by omega) W)
  have hK1 : bs.length ≤ b.length := by omega
  have hK2 : bs.length ≤ 10000 := by omega
  have hJ1 : ls.length ≤ l0.length := by omega
  have hJ2 : ls.length ≤ 10000 := by omega
  clear hg ha hb0 hr hr1 hbs hbl hin hr0 hr2 hls hll
  rw [Frm.val_lit]
  unfold Frm.obj at HS
  simp only at HS ⊢
  go_enter Tryd.func3, Tryd.ntmps3
  go_wp2_with fail
  refine HS.out.mono ?_
  rintro e w1 ⟨rfl, hb1⟩
  have HX1 := Lib.hid (HX0.out.below hb1)
  have HB1 := Lib.hid (below_to HB0.out hb1 HB0.out.size)
  clear HS hb1 HX0 HB0
  obtain ⟨g, gc, w2, hrun, hm, _, _, _⟩ := (Mine.first (Below.refl w1.heap.size w1)).append ls (.slice A0 ls.length c0) ((HL.out.below HB1.out).below (below_al (Below.refl _ _) _)) (by simp; omega)
  rw [List.nil_append] at hrun hm
  have HM := Lib.hid hm
  have v1 := convert_rd hm.rd
  have HX2 := Lib.hid (HX1.out.below hm.old)
  have HB2 := Lib.hid (below_to HB1.out hm.old HB1.out.size)
  have HR2 := Lib.hid (HR.out.below HB2.out)
  have HP := Lib.hid (hm.rd)
  have ER := Lib.hid hrun
  clear hm hrun HL HX1 HB1 HR
  go_upto_region 4 with (at_builtin; refine wpList_append_eq rfl (.tmp 20) (.tmp 25) 22 rfl _ _ rfl rfl _ _ ER.out ?_)
  clear v1 ER hmin
  go_cut [7, 8] (fun s7 s8 wx => ∃ gx, s7 = .pointer (some ⟨gx, 0, none⟩) ∧ Parsed ls w2 gx s8 wx)
  case first =>
    rcases frm_or_none ls with ⟨m, k, t, hn⟩ | ⟨f, hf, hls, h9⟩
    · have X1 := Lib.hid (hn.parse _ w2 HP.out)
      have HN := Lib.hid hn
      clear hn
      go_wp2_with fail
      refine X1.out.mono ?_
      rintro e w3 ⟨b3, rfl, hc3, hl3⟩
      have hn := below_al (Below.refl w3.heap.size w3) noObj
      have HE := Lib.hid (show PErrAt m k w2 w3.heap.size (.iface 64 (.pointer (some ⟨b3, 0, none⟩))) (w3.alloc noObj) from ⟨below_to hl3 hn hl3.size, hl3.size, BoxAt.new w3 zeroFrm _, hc3.below hn⟩)
      unfold noObj at HE
      clear X1 hc3 hl3 hn
      go_wp2_with fail
      go_meet
      exact ⟨_, rfl, .inl ⟨m, k, t, HN.out, HE.out⟩⟩
    · have hq : ∀ l, ls = l → Rd w2 (.slice (some ⟨g, 0, none⟩) ls.length gc) l := by rintro l rfl; exact HP.out
      have X1 := Lib.hid (Parse_ok _ f hf w2 (hq _ hls) (by rw [← hls]; exact h9))
      have HF := Lib.hid (And.intro hf (And.intro hls h9))
      clear hf hls h9 hq
      go_wp2_with fail
      refine X1.out.mono ?_
      rintro e w3 ⟨b3, he, hb3, ho3, hl3⟩
      rw [Frm.val_lit] at he
      subst he
      have hn := below_al (Below.refl w3.heap.size w3) (f.obj (.slice (some ⟨b3, 0, none⟩) f.b.length f.b.length))
      have hbl3 : b3 < w3.heap.size := (Array.getElem?_eq_some_iff.1 ho3).1
      have HE := Lib.hid (show POkAt f b3 w2 w3.heap.size (w3.alloc (f.obj (.slice (some ⟨b3, 0, none⟩) f.b.length f.b.length))) from ⟨below_to hl3 hn hl3.size, hl3.size, BoxAt.new w3 f _, (hn.block _ hbl3).trans ho3, hb3, Nat.ne_of_lt hbl3, (by have h1 := f.bs_len; have h2 := HF.out.2.2; rw [HF.out.2.1] at h2; omega)⟩)
      unfold Frm.obj at HE
      clear X1 hb3 ho3 hl3 hn hbl3
      go_wp2_with fail
      go_meet
      exact ⟨_, rfl, .inr ⟨f, b3, HF.out.1, HF.out.2.1, HF.out.2.2, rfl, HE.out⟩⟩
  obtain ⟨gx, rfl, hp⟩ := hcut
  have HQ := Lib.hid hp
  clear hp
  generalize wc = W4 at *
  go_upto_region 5 with fail
  go_cut [9, 10] (fun s9 s10 wx => ∃ gy, s9 = .pointer (some ⟨gy, 0, none⟩) ∧ Parsed2 ls w2 gx gy u8 s10 wx)
  case first =>
    rcases HQ.out with ⟨m, k, t, hn, he⟩ | ⟨f, b3, hf, hls, h9, rfl, ho⟩
    · have X1 := Lib.hid (hn.ref W4)
      have HN := Lib.hid (And.intro hn he)
      clear hn he
      go_wp2_with fail
      refine X1.out.mono ?_
      rintro e w5 ⟨rfl, hl5⟩
      have HE := Lib.hid ((HN.out.2.below hl5).below (below_al (Below.refl w5.heap.size w5) (.cells #[.string ⟨#[]⟩, .string ⟨#[]⟩, .int .i64 0, .int .u32 0, .string ⟨#[]⟩] 35)))
      clear X1 hl5
      go_wp2_with fail
      go_meet
      exact ⟨_, rfl, .inl ⟨m, k, t, HN.out.1, HE.out, rfl⟩⟩
    · have x1 := refParse_ok f hf (by rw [← hls]; exact h9) W4
      rw [← hls] at x1
      unfold refRow at x1
      have X1 := Lib.hid x1
      have HN := Lib.hid (And.intro hf ho)
      clear x1 hf hls h9 ho
      go_wp2_with fail
      refine X1.out.mono ?_
      rintro e w5 ⟨rfl, hl5⟩
      have HE := Lib.hid ((HN.out.2.below hl5).below (below_al (Below.refl w5.heap.size w5) (.cells #[.string (txt f.dst.bs), .string (txt f.src.bs), .int .i64 f.vlan, .int .u32 f.ty, .string (txt f.b)] 35)))
      have HY := Lib.hid (RefAt.new w5 (txt f.dst.bs) (txt f.src.bs) f.vlan f.ty (txt f.b))
      clear X1 hl5
      go_wp2_with fail
      go_meet
      exact ⟨_, rfl, .inr ⟨f, b3, HN.out.1, rfl, rfl, HE.out, HY.out⟩⟩
  obtain ⟨gy, rfl, hp⟩ := hcut
  have HQ5 := Lib.hid hp
  clear hp HQ
  generalize wc = W5 at *
  go_upto_region 6 with fail
  go_cut [63] (fun s63 wx => s63 = .bool false ∧ Parsed3 w2 gx wx)
  case first =>
    rcases HQ5.out with ⟨m, k, tx, hn, he, rfl⟩ | ⟨f, b3, hf, rfl, rfl, ho, hy⟩
    · as_aux_lemma =>
      have XT := Lib.hid (hn.told (he.chain.below (below_drew W5)))
      have HE := Lib.hid he
      have h1 := hn.ne
      have h2 : ¬ tx.toList = [] := by intro e; rw [e] at h1; cases h1
      have h3 : (tx.toList == []) = false := by simpa using h2
      obtain ⟨t1, ht1⟩ : ∃ t1, txt M6.zero.bs = t1 := ⟨_, rfl⟩
      obtain ⟨t3, ht3⟩ : ∃ t3, txt ([] : List UInt8) = t3 := ⟨_, rfl⟩
      have XZ : Hid (∀ W, Calls Tryd.prog 8 #[.agg #[.int .u8 0, .int .u8 0, .int .u8 0, .int .u8 0, .int .u8 0, .int .u8 0, .int .u8 0, .int .u8 0, .int .u8 0, .int .u8 0, .int .u8 0, .int .u8 0, .int .i64 0, .int .u16 0, .slice none 0 0]] W fun e w' => e = .returned (.agg #[.string t1, .string t1, .int .i64 0, .int .u32 0, .string t3]) ∧ Below W.heap.size W w') := by
        show ∀ _, _
        intro W
        rw [← ht1, ← ht3]
        exact of_zero W
      have e1 := fun W => ref_same t1 t1 t3 0 0 W
      clear ht1 ht3 hn
      refine wp_region_any (by kernel_rfl) ?_
      change wpAny _ _ _ _ _ _ _ (World.drew _)
      refine wpAny_take (i := 0) (oi := ⟨some 39, _, _, _, _, _⟩) (v := u8) rfl (by kernel_rfl) (by kernel_rfl) (by kernel_rfl) (fun _ _ _ h => h) (Or.inl ⟨by rfl, ?_⟩) ?_
      · intro W
        go_simp
      try simp only [Act.put, List.setIfInBounds_toArray, List.set_cons_zero, List.set_cons_succ]
      refine wpAny_take (i := 2) (oi := ⟨some 41, _, _, _, _, _⟩) (v := (.string tx)) rfl (by kernel_rfl) (by kernel_rfl) (by kernel_rfl) (fun _ _ _ h => h) (Or.inl ⟨by rfl, ?_⟩) ?_
      · intro W
        go_simp
      try simp only [Act.put, List.setIfInBounds_toArray, List.set_cons_zero, List.set_cons_succ]
      refine wpAny_ready (rs := [1]) (by kernel_rfl) (by simp) ?_
      refine AllReady.cons (o := ⟨some 40, _, _, _, _, _⟩) rfl (fun K hK => ?_) ?_
      · have hk := Lib.hid hK
        clear hK
        go_simp
        go_at_call 7
        refine (XT.out).mono ?_
        rintro e v1 ⟨rfl, hl1⟩
        dsimp only
        have HL1 := Lib.hid ((below_drew W5).trans hl1)
        have HB1 := Lib.hid (he.box.below HL1.out)
        rw [BoxAt, zeroObj_eq] at HB1
        unfold noObj at HB1
        clear hl1
        refine hk.out _ _ ?_
        clear hk K
        try simp only [Act.put, List.setIfInBounds_toArray, List.set_cons_zero, List.set_cons_succ]
        refine wpAny_take (i := 3) (oi := ⟨some 42, _, _, _, _, _⟩) (v := (.bool false)) rfl (by kernel_rfl) (by kernel_rfl) (by kernel_rfl) (fun _ _ _ h => h) (Or.inl ⟨by rfl, ?_⟩) ?_
        · intro W
          go_simp
        try simp only [Act.put, List.setIfInBounds_toArray, List.set_cons_zero, List.set_cons_succ]
        refine wpAny_take (i := 4) (oi := ⟨some 43, _, _, _, _, _⟩) (v := (.bool false)) rfl (by kernel_rfl) (by kernel_rfl) (by kernel_rfl) (fun _ _ _ h => h) (Or.inl ⟨by rfl, ?_⟩) ?_
        · intro W
          go_simp
        try simp only [Act.put, List.setIfInBounds_toArray, List.set_cons_zero, List.set_cons_succ]
        refine wpAny_take (i := 5) (oi := ⟨some 44, _, _, _, _, _⟩) (v := (.string tx)) rfl (by kernel_rfl) (by kernel_rfl) (by kernel_rfl) (fun _ _ _ h => h) (Or.inl ⟨by rfl, ?_⟩) ?_
        · intro W
          go_simp
        try simp only [Act.put, List.setIfInBounds_toArray, List.set_cons_zero, List.set_cons_succ]
        refine wpAny_take (i := 6) (oi := ⟨some 45, _, _, _, _, _⟩) (v := (.bool false)) rfl (by kernel_rfl) (by kernel_rfl) (by kernel_rfl) (fun _ _ _ h => h) (Or.inl ⟨by rfl, ?_⟩) ?_
        · intro W
          go_simp
        try simp only [Act.put, List.setIfInBounds_toArray, List.set_cons_zero, List.set_cons_succ]
        refine wpAny_take (i := 7) (oi := ⟨some 46, _, _, _, _, _⟩) (v := (.bool false)) rfl (by kernel_rfl) (by kernel_rfl) (by kernel_rfl) (fun _ _ _ h => h) (Or.inl ⟨by rfl, ?_⟩) ?_
        · intro W
          go_simp
        try simp only [Act.put, List.setIfInBounds_toArray, List.set_cons_zero, List.set_cons_succ]
        refine wpAny_take (i := 8) (oi := ⟨some 47, _, _, _, _, _⟩) (v := undef) rfl (by kernel_rfl) (by kernel_rfl) (by kernel_rfl) (fun _ _ _ h => h) (Or.inr ⟨by rfl, rfl⟩) ?_
        try simp only [Act.put, List.setIfInBounds_toArray, List.set_cons_zero, List.set_cons_succ]
        refine wpAny_take (i := 9) (oi := ⟨some 48, _, _, _, _, _⟩) (v := undef) rfl (by kernel_rfl) (by kernel_rfl) (by kernel_rfl) (fun _ _ _ h => h) (Or.inr ⟨by rfl, rfl⟩) ?_
        try simp only [Act.put, List.setIfInBounds_toArray, List.set_cons_zero, List.set_cons_succ]
        refine wpAny_take (i := 10) (oi := ⟨some 49, _, _, _, _, _⟩) (v := undef) rfl (by kernel_rfl) (by kernel_rfl) (by kernel_rfl) (fun _ _ _ h => h) (Or.inr ⟨by rfl, rfl⟩) ?_
        try simp only [Act.put, List.setIfInBounds_toArray, List.set_cons_zero, List.set_cons_succ]
        refine wpAny_take (i := 11) (oi := ⟨some 50, _, _, _, _, _⟩) (v := undef) rfl (by kernel_rfl) (by kernel_rfl) (by kernel_rfl) (fun _ _ _ h => h) (Or.inr ⟨by rfl, rfl⟩) ?_
        try simp only [Act.put, List.setIfInBounds_toArray, List.set_cons_zero, List.set_cons_succ]
        refine wpAny_take (i := 12) (oi := ⟨some 51, _, _, _, _, _⟩) (v := (.bool false)) rfl (by kernel_rfl) (by kernel_rfl) (by kernel_rfl) (fun _ _ _ h => h) (Or.inl ⟨by rfl, ?_⟩) ?_
        · intro W
          go_simp
        try simp only [Act.put, List.setIfInBounds_toArray, List.set_cons_zero, List.set_cons_succ]
        refine wpAny_take (i := 13) (oi := ⟨some 52, _, _, _, _, _⟩) (v := (.bool false)) rfl (by kernel_rfl) (by kernel_rfl) (by kernel_rfl) (fun _ _ _ h => h) (Or.inl ⟨by rfl, ?_⟩) ?_
        · intro W
          go_simp
        try simp only [Act.put, List.setIfInBounds_toArray, List.set_cons_zero, List.set_cons_succ]
        refine wpAny_take (i := 14) (oi := ⟨some 53, _, _, _, _, _⟩) (v := (.bool false)) rfl (by kernel_rfl) (by kernel_rfl) (by kernel_rfl) (fun _ _ _ h => h) (Or.inl ⟨by rfl, ?_⟩) ?_
        · intro W
          go_simp
        try simp only [Act.put, List.setIfInBounds_toArray, List.set_cons_zero, List.set_cons_succ]
        refine wpAny_take (i := 15) (oi := ⟨some 54, _, _, _, _, _⟩) (v := (.string tx)) rfl (by kernel_rfl) (by kernel_rfl) (by kernel_rfl) (fun _ _ _ h => h) (Or.inl ⟨by rfl, ?_⟩) ?_
        · intro W
          go_simp
        try simp only [Act.put, List.setIfInBounds_toArray, List.set_cons_zero, List.set_cons_succ]
        refine wpAny_take (i := 16) (oi := ⟨some 55, _, _, _, _, _⟩) (v := (.bool true)) rfl (by kernel_rfl) (by kernel_rfl) (by kernel_rfl) (fun _ _ _ h => h) (Or.inl ⟨by rfl, ?_⟩) ?_
        · intro W
          go_simp
        try simp only [Act.put, List.setIfInBounds_toArray, List.set_cons_zero, List.set_cons_succ]
        refine wpAny_take (i := 17) (oi := ⟨some 56, _, _, _, _, _⟩) (v := (.bool true)) rfl (by kernel_rfl) (by kernel_rfl) (by kernel_rfl) (fun _ _ _ h => h) (Or.inl ⟨by rfl, ?_⟩) ?_
        · intro W
          go_simp
        try simp only [Act.put, List.setIfInBounds_toArray, List.set_cons_zero, List.set_cons_succ]
        refine wpAny_take (i := 20) (oi := ⟨some 59, _, _, _, _, _⟩) (v := (.agg #[.int .u8 0, .int .u8 0, .int .u8 0, .int .u8 0, .int .u8 0, .int .u8 0, .int .u8 0, .int .u8 0, .int .u8 0, .int .u8 0, .int .u8 0, .int .u8 0, .int .i64 0, .int .u16 0, .slice none 0 0])) rfl (by kernel_rfl) (by kernel_rfl) (by kernel_rfl) (fun _ _ _ h => h) (Or.inl ⟨by rfl, ?_⟩) ?_
        · intro W
          have hb := build_nofrm W
          go_simp
        try simp only [Act.put, List.setIfInBounds_toArray, List.set_cons_zero, List.set_cons_succ]
        refine wpAny_ready (rs := [18]) (by kernel_rfl) (by simp) ?_
        refine AllReady.cons (o := ⟨some 57, _, _, _, _, _⟩) rfl (fun K hK => ?_) ?_
        · have hk := Lib.hid hK
          clear hK
          rw [if_pos (by rfl)]
          refine wp_load_row 27 (.tmp 7) rfl gx rfl 27 #[.int .u8 0, .int .u8 0, .int .u8 0, .int .u8 0, .int .u8 0, .int .u8 0, .int .u8 0, .int .u8 0, .int .u8 0, .int .u8 0, .int .u8 0, .int .u8 0, .int .i64 0, .int .u16 0, .slice none 0 0] (0, 0) _ HB1.out Tryd.underlying27 rfl frmSize ?_
          refine hk.out _ _ ?_
          clear hk K
          try simp only [Act.put, List.setIfInBounds_toArray, List.set_cons_zero, List.set_cons_succ]
          refine wpAny_ready (rs := [19]) (by kernel_rfl) (by simp) ?_
          refine AllReady.cons (o := ⟨some 58, _, _, _, _, _⟩) rfl (fun K hK => ?_) ?_
          · have hk := Lib.hid hK
            clear hK
            go_simp
            go_at_call 8
            refine (XZ.out _).mono ?_
            rintro e v2 ⟨rfl, hl2⟩
            dsimp only
            have HL2 := Lib.hid (below_to HL1.out hl2 HL1.out.size)
            clear hl2
            refine hk.out _ _ ?_
            clear hk K
            try simp only [Act.put, List.setIfInBounds_toArray, List.set_cons_zero, List.set_cons_succ]
            refine wpAny_ready (rs := [21]) (by kernel_rfl) (by simp) ?_
            refine AllReady.cons (o := ⟨some 60, _, _, _, _, _⟩) rfl (fun K hK => ?_) ?_
            · have hk := Lib.hid hK
              clear hK
              go_simp
              go_at_call 8
              refine (XZ.out _).mono ?_
              rintro e v3 ⟨rfl, hl3⟩
              dsimp only
              have HL3 := Lib.hid (below_to HL2.out hl3 HL2.out.size)
              clear hl3
              refine hk.out _ _ ?_
              clear hk K
              try simp only [Act.put, List.setIfInBounds_toArray, List.set_cons_zero, List.set_cons_succ]
              refine wpAny_take (i := 22) (oi := ⟨some 61, _, _, _, _, _⟩) (v := (.bool false)) rfl (by kernel_rfl) (by kernel_rfl) (by kernel_rfl) (fun _ _ _ h => h) (Or.inl ⟨by rfl, ?_⟩) ?_
              · intro W
                go_simp
              try simp only [Act.put, List.setIfInBounds_toArray, List.set_cons_zero, List.set_cons_succ]
              refine wpAny_take (i := 23) (oi := ⟨some 62, _, _, _, _, _⟩) (v := (.bool false)) rfl (by kernel_rfl) (by kernel_rfl) (by kernel_rfl) (fun _ _ _ h => h) (Or.inl ⟨by rfl, ?_⟩) ?_
              · intro W
                go_simp
              try simp only [Act.put, List.setIfInBounds_toArray, List.set_cons_zero, List.set_cons_succ]
              refine wpAny_take (i := 24) (oi := ⟨some 63, _, _, _, _, _⟩) (v := (.bool false)) rfl (by kernel_rfl) (by kernel_rfl) (by kernel_rfl) (fun _ _ _ h => h) (Or.inl ⟨by rfl, ?_⟩) ?_
              · intro W
                go_simp
              try simp only [Act.put, List.setIfInBounds_toArray, List.set_cons_zero, List.set_cons_succ]
              refine wpAny_done (by kernel_rfl) ?_ _
              go_wp2_with fail
              go_meet
              exact ⟨rfl, (HE.out.below HL3.out).three⟩
            exact AllReady.nil
          exact AllReady.nil
        exact AllReady.nil
      exact AllReady.nil
    · as_aux_lemma =>
      have HO := Lib.hid ho
      obtain ⟨fd, fs, vx, tx, fb⟩ := f
      have hrd : Rd W5 (.slice (some ⟨b3, 0, none⟩) fb.length fb.length) fb := Rd.of_obj ho.row (Nat.le_refl _)
      have hty1 : tx < 65536 := hf.ty
      have HBX : Hid (W5.heap[gx]? = some (.cells #[.int .u8 fd.a.toNat, .int .u8 fd.b.toNat, .int .u8 fd.c.toNat, .int .u8 fd.d.toNat, .int .u8 fd.e.toNat, .int .u8 fd.f.toNat, .int .u8 fs.a.toNat, .int .u8 fs.b.toNat, .int .u8 fs.c.toNat, .int .u8 fs.d.toNat, .int .u8 fs.e.toNat, .int .u8 fs.f.toNat, .int .i64 vx, .int .u16 tx, .slice (some ⟨b3, 0, none⟩) fb.length fb.length] 27)) := ho.box
      have HY5 : Hid (W5.heap[gy]? = some (.cells #[.string (txt fd.bs), .string (txt fs.bs), .int .i64 vx, .int .u32 tx, .string (txt fb)] 35)) := hy
      have XO : Hid (∀ W, Below W5.heap.size W5 W → Calls Tryd.prog 8 #[.agg #[.int .u8 fd.a.toNat, .int .u8 fd.b.toNat, .int .u8 fd.c.toNat, .int .u8 fd.d.toNat, .int .u8 fd.e.toNat, .int .u8 fd.f.toNat, .int .u8 fs.a.toNat, .int .u8 fs.b.toNat, .int .u8 fs.c.toNat, .int .u8 fs.d.toNat, .int .u8 fs.e.toNat, .int .u8 fs.f.toNat, .int .i64 vx, .int .u16 tx, .slice (some ⟨b3, 0, none⟩) fb.length fb.length]] W fun e w' => e = .returned (.agg #[.string (txt fd.bs), .string (txt fs.bs), .int .i64 vx, .int .u32 tx, .string (txt fb)]) ∧ Below W.heap.size W w') := fun W h => of_any ⟨fd, fs, vx, tx, fb⟩ _ _ W hty1 (hrd.below h)
      generalize txt fd.bs = t1 at *
      generalize txt fs.bs = t2 at *
      generalize txt fb = t3 at *
      have e1 := fun W => ref_same t1 t2 t3 vx (tx : Int) W
      clear ho hy hf hrd hty1
      refine wp_region_any (by kernel_rfl) ?_
      change wpAny _ _ _ _ _ _ _ (World.drew _)
      refine wpAny_take (i := 0) (oi := ⟨some 39, _, _, _, _, _⟩) (v := .nilIface) rfl (by kernel_rfl) (by kernel_rfl) (by kernel_rfl) (fun _ _ _ h => h) (Or.inl ⟨by rfl, ?_⟩) ?_
      · intro W
        go_simp
      try simp only [Act.put, List.setIfInBounds_toArray, List.set_cons_zero, List.set_cons_succ]
      refine wpAny_take (i := 2) (oi := ⟨some 41, _, _, _, _, _⟩) (v := (.string ⟨#[]⟩)) rfl (by kernel_rfl) (by kernel_rfl) (by kernel_rfl) (fun _ _ _ h => h) (Or.inl ⟨by rfl, ?_⟩) ?_
      · intro W
        go_simp
      try simp only [Act.put, List.setIfInBounds_toArray, List.set_cons_zero, List.set_cons_succ]
      refine wpAny_ready (rs := [1]) (by kernel_rfl) (by simp) ?_
      refine AllReady.cons (o := ⟨some 40, _, _, _, _, _⟩) rfl (fun K hK => ?_) ?_
      · have hk := Lib.hid hK
        clear hK
        go_simp
        go_at_call 7
        refine (told_nil W5.drew).mono ?_
        rintro e v1 ⟨rfl, rfl⟩
        dsimp only
        refine hk.out _ _ ?_
        clear hk K
        try simp only [Act.put, List.setIfInBounds_toArray, List.set_cons_zero, List.set_cons_succ]
        refine wpAny_take (i := 3) (oi := ⟨some 42, _, _, _, _, _⟩) (v := (.bool false)) rfl (by kernel_rfl) (by kernel_rfl) (by kernel_rfl) (fun _ _ _ h => h) (Or.inl ⟨by rfl, ?_⟩) ?_
        · intro W
          go_simp
        try simp only [Act.put, List.setIfInBounds_toArray, List.set_cons_zero, List.set_cons_succ]
        refine wpAny_take (i := 4) (oi := ⟨some 43, _, _, _, _, _⟩) (v := (.bool false)) rfl (by kernel_rfl) (by kernel_rfl) (by kernel_rfl) (fun _ _ _ h => h) (Or.inl ⟨by rfl, ?_⟩) ?_
        · intro W
          go_simp
        try simp only [Act.put, List.setIfInBounds_toArray, List.set_cons_zero, List.set_cons_succ]
        refine wpAny_take (i := 5) (oi := ⟨some 44, _, _, _, _, _⟩) (v := (.string ⟨#[]⟩)) rfl (by kernel_rfl) (by kernel_rfl) (by kernel_rfl) (fun _ _ _ h => h) (Or.inl ⟨by rfl, ?_⟩) ?_
        · intro W
          go_simp
        try simp only [Act.put, List.setIfInBounds_toArray, List.set_cons_zero, List.set_cons_succ]
        refine wpAny_take (i := 6) (oi := ⟨some 45, _, _, _, _, _⟩) (v := (.bool true)) rfl (by kernel_rfl) (by kernel_rfl) (by kernel_rfl) (fun _ _ _ h => h) (Or.inl ⟨by rfl, ?_⟩) ?_
        · intro W
          go_simp
        try simp only [Act.put, List.setIfInBounds_toArray, List.set_cons_zero, List.set_cons_succ]
        refine wpAny_take (i := 7) (oi := ⟨some 46, _, _, _, _, _⟩) (v := (.bool true)) rfl (by kernel_rfl) (by kernel_rfl) (by kernel_rfl) (fun _ _ _ h => h) (Or.inl ⟨by rfl, ?_⟩) ?_
        · intro W
          go_simp
        try simp only [Act.put, List.setIfInBounds_toArray, List.set_cons_zero, List.set_cons_succ]
        refine wpAny_ready (rs := [8, 10]) (by kernel_rfl) (by simp) ?_
        refine AllReady.cons (o := ⟨some 47, _, _, _, _, _⟩) rfl (fun K hK => ?_) ?_
        · have hk := Lib.hid hK
          clear hK
          rw [if_pos (by rfl)]
          refine wp_load_row 27 (.tmp 7) rfl gx rfl 27 #[.int .u8 fd.a.toNat, .int .u8 fd.b.toNat, .int .u8 fd.c.toNat, .int .u8 fd.d.toNat, .int .u8 fd.e.toNat, .int .u8 fd.f.toNat, .int .u8 fs.a.toNat, .int .u8 fs.b.toNat, .int .u8 fs.c.toNat, .int .u8 fs.d.toNat, .int .u8 fs.e.toNat, .int .u8 fs.f.toNat, .int .i64 vx, .int .u16 tx, .slice (some ⟨b3, 0, none⟩) fb.length fb.length] (0, 0) _ (show W5.drew.heap[gx]? = _ from HBX.out) Tryd.underlying27 rfl frmSize ?_
          refine hk.out _ _ ?_
          clear hk K
          try simp only [Act.put, List.setIfInBounds_toArray, List.set_cons_zero, List.set_cons_succ]
          refine wpAny_ready (rs := [9, 10]) (by kernel_rfl) (by simp) ?_
          refine AllReady.cons (o := ⟨some 48, _, _, _, _, _⟩) rfl (fun K hK => ?_) ?_
          · have hk := Lib.hid hK
            clear hK
            go_simp
            go_at_call 8
            refine (XO.out _ (below_drew W5)).mono ?_
            rintro e v2 ⟨rfl, hl2⟩
            dsimp only
            have HL2 := Lib.hid ((below_drew W5).trans hl2)
            clear hl2
            refine hk.out _ _ ?_
            clear hk K
            try simp only [Act.put, List.setIfInBounds_toArray, List.set_cons_zero, List.set_cons_succ]
            refine wpAny_ready (rs := [10]) (by kernel_rfl) (by simp) ?_
            refine AllReady.cons (o := ⟨some 49, _, _, _, _, _⟩) rfl (fun K hK => ?_) ?_
            · have hk := Lib.hid hK
              clear hK
              rw [if_pos (by rfl)]
              refine wp_load_row 35 (.tmp 9) rfl gy rfl 35 #[.string t1, .string t2, .int .i64 vx, .int .u32 tx, .string t3] (0, 0) _ ((show RefAt _ gy t1 t2 vx tx t3 from HY5.out).below HL2.out) Tryd.underlying35 rfl refSize ?_
              refine hk.out _ _ ?_
              clear hk K
              try simp only [Act.put, List.setIfInBounds_toArray, List.set_cons_zero, List.set_cons_succ]
              refine wpAny_take (i := 11) (oi := ⟨some 50, _, _, _, _, _⟩) (v := (.bool false)) rfl (by kernel_rfl) (by kernel_rfl) (by kernel_rfl) (fun _ _ _ h => h) (Or.inl ⟨by rfl, ?_⟩) ?_
              · intro W
                go_simp
              try simp only [Act.put, List.setIfInBounds_toArray, List.set_cons_zero, List.set_cons_succ]
              refine wpAny_take (i := 12) (oi := ⟨some 51, _, _, _, _, _⟩) (v := (.bool false)) rfl (by kernel_rfl) (by kernel_rfl) (by kernel_rfl) (fun _ _ _ h => h) (Or.inl ⟨by rfl, ?_⟩) ?_
              · intro W
                go_simp
              try simp only [Act.put, List.setIfInBounds_toArray, List.set_cons_zero, List.set_cons_succ]
              refine wpAny_take (i := 13) (oi := ⟨some 52, _, _, _, _, _⟩) (v := (.bool false)) rfl (by kernel_rfl) (by kernel_rfl) (by kernel_rfl) (fun _ _ _ h => h) (Or.inl ⟨by rfl, ?_⟩) ?_
              · intro W
                go_simp
              try simp only [Act.put, List.setIfInBounds_toArray, List.set_cons_zero, List.set_cons_succ]
              refine wpAny_take (i := 14) (oi := ⟨some 53, _, _, _, _, _⟩) (v := (.bool false)) rfl (by kernel_rfl) (by kernel_rfl) (by kernel_rfl) (fun _ _ _ h => h) (Or.inl ⟨by rfl, ?_⟩) ?_
              · intro W
                go_simp
              try simp only [Act.put, List.setIfInBounds_toArray, List.set_cons_zero, List.set_cons_succ]
              refine wpAny_take (i := 15) (oi := ⟨some 54, _, _, _, _, _⟩) (v := (.string ⟨#[]⟩)) rfl (by kernel_rfl) (by kernel_rfl) (by kernel_rfl) (fun _ _ _ h => h) (Or.inl ⟨by rfl, ?_⟩) ?_
              · intro W
                go_simp
              try simp only [Act.put, List.setIfInBounds_toArray, List.set_cons_zero, List.set_cons_succ]
              refine wpAny_take (i := 16) (oi := ⟨some 55, _, _, _, _, _⟩) (v := (.bool false)) rfl (by kernel_rfl) (by kernel_rfl) (by kernel_rfl) (fun _ _ _ h => h) (Or.inl ⟨by rfl, ?_⟩) ?_
              · intro W
                go_simp
              try simp only [Act.put, List.setIfInBounds_toArray, List.set_cons_zero, List.set_cons_succ]
              refine wpAny_take (i := 17) (oi := ⟨some 56, _, _, _, _, _⟩) (v := (.bool false)) rfl (by kernel_rfl) (by kernel_rfl) (by kernel_rfl) (fun _ _ _ h => h) (Or.inl ⟨by rfl, ?_⟩) ?_
              · intro W
                go_simp
              try simp only [Act.put, List.setIfInBounds_toArray, List.set_cons_zero, List.set_cons_succ]
              refine wpAny_take (i := 18) (oi := ⟨some 57, _, _, _, _, _⟩) (v := undef) rfl (by kernel_rfl) (by kernel_rfl) (by kernel_rfl) (fun _ _ _ h => h) (Or.inr ⟨by rfl, rfl⟩) ?_
              try simp only [Act.put, List.setIfInBounds_toArray, List.set_cons_zero, List.set_cons_succ]
              refine wpAny_take (i := 19) (oi := ⟨some 58, _, _, _, _, _⟩) (v := undef) rfl (by kernel_rfl) (by kernel_rfl) (by kernel_rfl) (fun _ _ _ h => h) (Or.inr ⟨by rfl, rfl⟩) ?_
              try simp only [Act.put, List.setIfInBounds_toArray, List.set_cons_zero, List.set_cons_succ]
              refine wpAny_take (i := 20) (oi := ⟨some 59, _, _, _, _, _⟩) (v := undef) rfl (by kernel_rfl) (by kernel_rfl) (by kernel_rfl) (fun _ _ _ h => h) (Or.inr ⟨by rfl, rfl⟩) ?_
              try simp only [Act.put, List.setIfInBounds_toArray, List.set_cons_zero, List.set_cons_succ]
              refine wpAny_take (i := 21) (oi := ⟨some 60, _, _, _, _, _⟩) (v := undef) rfl (by kernel_rfl) (by kernel_rfl) (by kernel_rfl) (fun _ _ _ h => h) (Or.inr ⟨by rfl, rfl⟩) ?_
              try simp only [Act.put, List.setIfInBounds_toArray, List.set_cons_zero, List.set_cons_succ]
              refine wpAny_take (i := 22) (oi := ⟨some 61, _, _, _, _, _⟩) (v := undef) rfl (by kernel_rfl) (by kernel_rfl) (by kernel_rfl) (fun _ _ _ h => h) (Or.inr ⟨by rfl, rfl⟩) ?_
              try simp only [Act.put, List.setIfInBounds_toArray, List.set_cons_zero, List.set_cons_succ]
              refine wpAny_take (i := 23) (oi := ⟨some 62, _, _, _, _, _⟩) (v := (.bool false)) rfl (by kernel_rfl) (by kernel_rfl) (by kernel_rfl) (fun _ _ _ h => h) (Or.inl ⟨by rfl, ?_⟩) ?_
              · intro W
                go_simp
              try simp only [Act.put, List.setIfInBounds_toArray, List.set_cons_zero, List.set_cons_succ]
              refine wpAny_take (i := 24) (oi := ⟨some 63, _, _, _, _, _⟩) (v := (.bool false)) rfl (by kernel_rfl) (by kernel_rfl) (by kernel_rfl) (fun _ _ _ h => h) (Or.inl ⟨by rfl, ?_⟩) ?_
              · intro W
                go_simp
              try simp only [Act.put, List.setIfInBounds_toArray, List.set_cons_zero, List.set_cons_succ]
              refine wpAny_done (by kernel_rfl) ?_ _
              go_wp2_with fail
              go_meet
              exact ⟨rfl, (HO.out.below HL2.out).three⟩
            exact AllReady.nil
          refine AllReady.cons (o := ⟨some 49, _, _, _, _, _⟩) rfl (fun K hK => ?_) ?_
          · have hk := Lib.hid hK
            clear hK
            rw [if_pos (by rfl)]
            refine wp_load_row 35 (.tmp 9) rfl gy rfl 35 #[.string t1, .string t2, .int .i64 vx, .int .u32 tx, .string t3] (0, 0) _ (show W5.drew.heap[gy]? = _ from HY5.out) Tryd.underlying35 rfl refSize ?_
            refine hk.out _ _ ?_
            clear hk K
            try simp only [Act.put, List.setIfInBounds_toArray, List.set_cons_zero, List.set_cons_succ]
            refine wpAny_ready (rs := [9]) (by kernel_rfl) (by simp) ?_
            refine AllReady.cons (o := ⟨some 48, _, _, _, _, _⟩) rfl (fun K hK => ?_) ?_
            · have hk := Lib.hid hK
              clear hK
              go_simp
              go_at_call 8
              refine (XO.out _ (below_drew W5)).mono ?_
              rintro e v2 ⟨rfl, hl2⟩
              dsimp only
              have HL2 := Lib.hid ((below_drew W5).trans hl2)
              clear hl2
              refine hk.out _ _ ?_
              clear hk K
              try simp only [Act.put, List.setIfInBounds_toArray, List.set_cons_zero, List.set_cons_succ]
              refine wpAny_take (i := 11) (oi := ⟨some 50, _, _, _, _, _⟩) (v := (.bool false)) rfl (by kernel_rfl) (by kernel_rfl) (by kernel_rfl) (fun _ _ _ h => h) (Or.inl ⟨by rfl, ?_⟩) ?_
              · intro W
                go_simp
              try simp only [Act.put, List.setIfInBounds_toArray, List.set_cons_zero, List.set_cons_succ]
              refine wpAny_take (i := 12) (oi := ⟨some 51, _, _, _, _, _⟩) (v := (.bool false)) rfl (by kernel_rfl) (by kernel_rfl) (by kernel_rfl) (fun _ _ _ h => h) (Or.inl ⟨by rfl, ?_⟩) ?_
              · intro W
                go_simp
              try simp only [Act.put, List.setIfInBounds_toArray, List.set_cons_zero, List.set_cons_succ]
              refine wpAny_take (i := 13) (oi := ⟨some 52, _, _, _, _, _⟩) (v := (.bool false)) rfl (by kernel_rfl) (by kernel_rfl) (by kernel_rfl) (fun _ _ _ h => h) (Or.inl ⟨by rfl, ?_⟩) ?_
              · intro W
                go_simp
              try simp only [Act.put, List.setIfInBounds_toArray, List.set_cons_zero, List.set_cons_succ]
              refine wpAny_take (i := 14) (oi := ⟨some 53, _, _, _, _, _⟩) (v := (.bool false)) rfl (by kernel_rfl) (by kernel_rfl) (by kernel_rfl) (fun _ _ _ h => h) (Or.inl ⟨by rfl, ?_⟩) ?_
              · intro W
                go_simp
              try simp only [Act.put, List.setIfInBounds_toArray, List.set_cons_zero, List.set_cons_succ]
              refine wpAny_take (i := 15) (oi := ⟨some 54, _, _, _, _, _⟩) (v := (.string ⟨#[]⟩)) rfl (by kernel_rfl) (by kernel_rfl) (by kernel_rfl) (fun _ _ _ h => h) (Or.inl ⟨by rfl, ?_⟩) ?_
              · intro W
                go_simp
              try simp only [Act.put, List.setIfInBounds_toArray, List.set_cons_zero, List.set_cons_succ]
              refine wpAny_take (i := 16) (oi := ⟨some 55, _, _, _, _, _⟩) (v := (.bool false)) rfl (by kernel_rfl) (by kernel_rfl) (by kernel_rfl) (fun _ _ _ h => h) (Or.inl ⟨by rfl, ?_⟩) ?_
              · intro W
                go_simp
              try simp only [Act.put, List.setIfInBounds_toArray, List.set_cons_zero, List.set_cons_succ]
              refine wpAny_take (i := 17) (oi := ⟨some 56, _, _, _, _, _⟩) (v := (.bool false)) rfl (by kernel_rfl) (by kernel_rfl) (by kernel_rfl) (fun _ _ _ h => h) (Or.inl ⟨by rfl, ?_⟩) ?_
              · intro W
                go_simp
              try simp only [Act.put, List.setIfInBounds_toArray, List.set_cons_zero, List.set_cons_succ]
              refine wpAny_take (i := 18) (oi := ⟨some 57, _, _, _, _, _⟩) (v := undef) rfl (by kernel_rfl) (by kernel_rfl) (by kernel_rfl) (fun _ _ _ h => h) (Or.inr ⟨by rfl, rfl⟩) ?_
              try simp only [Act.put, List.setIfInBounds_toArray, List.set_cons_zero, List.set_cons_succ]
              refine wpAny_take (i := 19) (oi := ⟨some 58, _, _, _, _, _⟩) (v := undef) rfl (by kernel_rfl) (by kernel_rfl) (by kernel_rfl) (fun _ _ _ h => h) (Or.inr ⟨by rfl, rfl⟩) ?_
              try simp only [Act.put, List.setIfInBounds_toArray, List.set_cons_zero, List.set_cons_succ]
              refine wpAny_take (i := 20) (oi := ⟨some 59, _, _, _, _, _⟩) (v := undef) rfl (by kernel_rfl) (by kernel_rfl) (by kernel_rfl) (fun _ _ _ h => h) (Or.inr ⟨by rfl, rfl⟩) ?_
              try simp only [Act.put, List.setIfInBounds_toArray, List.set_cons_zero, List.set_cons_succ]
              refine wpAny_take (i := 21) (oi := ⟨some 60, _, _, _, _, _⟩) (v := undef) rfl (by kernel_rfl) (by kernel_rfl) (by kernel_rfl) (fun _ _ _ h => h) (Or.inr ⟨by rfl, rfl⟩) ?_
              try simp only [Act.put, List.setIfInBounds_toArray, List.set_cons_zero, List.set_cons_succ]
              refine wpAny_take (i := 22) (oi := ⟨some 61, _, _, _, _, _⟩) (v := undef) rfl (by kernel_rfl) (by kernel_rfl) (by kernel_rfl) (fun _ _ _ h => h) (Or.inr ⟨by rfl, rfl⟩) ?_
              try simp only [Act.put, List.setIfInBounds_toArray, List.set_cons_zero, List.set_cons_succ]
              refine wpAny_take (i := 23) (oi := ⟨some 62, _, _, _, _, _⟩) (v := (.bool false)) rfl (by kernel_rfl) (by kernel_rfl) (by kernel_rfl) (fun _ _ _ h => h) (Or.inl ⟨by rfl, ?_⟩) ?_
              · intro W
                go_simp
              try simp only [Act.put, List.setIfInBounds_toArray, List.set_cons_zero, List.set_cons_succ]
              refine wpAny_take (i := 24) (oi := ⟨some 63, _, _, _, _, _⟩) (v := (.bool false)) rfl (by kernel_rfl) (by kernel_rfl) (by kernel_rfl) (fun _ _ _ h => h) (Or.inl ⟨by rfl, ?_⟩) ?_
              · intro W
                go_simp
              try simp only [Act.put, List.setIfInBounds_toArray, List.set_cons_zero, List.set_cons_succ]
              refine wpAny_done (by kernel_rfl) ?_ _
              go_wp2_with fail
              go_meet
              exact ⟨rfl, (HO.out.below HL2.out).three⟩
            exact AllReady.nil
          exact AllReady.nil
        refine AllReady.cons (o := ⟨some 49, _, _, _, _, _⟩) rfl (fun K hK => ?_) ?_
        · have hk := Lib.hid hK
          clear hK
          rw [if_pos (by rfl)]
          refine wp_load_row 35 (.tmp 9) rfl gy rfl 35 #[.string t1, .string t2, .int .i64 vx, .int .u32 tx, .string t3] (0, 0) _ (show W5.drew.heap[gy]? = _ from HY5.out) Tryd.underlying35 rfl refSize ?_
          refine hk.out _ _ ?_
          clear hk K
          try simp only [Act.put, List.setIfInBounds_toArray, List.set_cons_zero, List.set_cons_succ]
          refine wpAny_ready (rs := [8]) (by kernel_rfl) (by simp) ?_
          refine AllReady.cons (o := ⟨some 47, _, _, _, _, _⟩) rfl (fun K hK => ?_) ?_
          · have hk := Lib.hid hK
            clear hK
            rw [if_pos (by rfl)]
            refine wp_load_row 27 (.tmp 7) rfl gx rfl 27 #[.int .u8 fd.a.toNat, .int .u8 fd.b.toNat, .int .u8 fd.c.toNat, .int .u8 fd.d.toNat, .int .u8 fd.e.toNat, .int .u8 fd.f.toNat, .int .u8 fs.a.toNat, .int .u8 fs.b.toNat, .int .u8 fs.c.toNat, .int .u8 fs.d.toNat, .int .u8 fs.e.toNat, .int .u8 fs.f.toNat, .int .i64 vx, .int .u16 tx, .slice (some ⟨b3, 0, none⟩) fb.length fb.length] (0, 0) _ (show W5.drew.heap[gx]? = _ from HBX.out) Tryd.underlying27 rfl frmSize ?_
            refine hk.out _ _ ?_
            clear hk K
            try simp only [Act.put, List.setIfInBounds_toArray, List.set_cons_zero, List.set_cons_succ]
            refine wpAny_ready (rs := [9]) (by kernel_rfl) (by simp) ?_
            refine AllReady.cons (o := ⟨some 48, _, _, _, _, _⟩) rfl (fun K hK => ?_) ?_
            · have hk := Lib.hid hK
              clear hK
              go_simp
              go_at_call 8
              refine (XO.out _ (below_drew W5)).mono ?_
              rintro e v2 ⟨rfl, hl2⟩
              dsimp only
              have HL2 := Lib.hid ((below_drew W5).trans hl2)
              clear hl2
              refine hk.out _ _ ?_
              clear hk K
              try simp only [Act.put, List.setIfInBounds_toArray, List.set_cons_zero, List.set_cons_succ]
              refine wpAny_take (i := 11) (oi := ⟨some 50, _, _, _, _, _⟩) (v := (.bool false)) rfl (by kernel_rfl) (by kernel_rfl) (by kernel_rfl) (fun _ _ _ h => h) (Or.inl ⟨by rfl, ?_⟩) ?_
              · intro W
                go_simp
              try simp only [Act.put, List.setIfInBounds_toArray, List.set_cons_zero, List.set_cons_succ]
              refine wpAny_take (i := 12) (oi := ⟨some 51, _, _, _, _, _⟩) (v := (.bool false)) rfl (by kernel_rfl) (by kernel_rfl) (by kernel_rfl) (fun _ _ _ h => h) (Or.inl ⟨by rfl, ?_⟩) ?_
              · intro W
                go_simp
              try simp only [Act.put, List.setIfInBounds_toArray, List.set_cons_zero, List.set_cons_succ]
              refine wpAny_take (i := 13) (oi := ⟨some 52, _, _, _, _, _⟩) (v := (.bool false)) rfl (by kernel_rfl) (by kernel_rfl) (by kernel_rfl) (fun _ _ _ h => h) (Or.inl ⟨by rfl, ?_⟩) ?_
              · intro W
                go_simp
              try simp only [Act.put, List.setIfInBounds_toArray, List.set_cons_zero, List.set_cons_succ]
              refine wpAny_take (i := 14) (oi := ⟨some 53, _, _, _, _, _⟩) (v := (.bool false)) rfl (by kernel_rfl) (by kernel_rfl) (by kernel_rfl) (fun _ _ _ h => h) (Or.inl ⟨by rfl, ?_⟩) ?_
              · intro W
                go_simp
              try simp only [Act.put, List.setIfInBounds_toArray, List.set_cons_zero, List.set_cons_succ]
              refine wpAny_take (i := 15) (oi := ⟨some 54, _, _, _, _, _⟩) (v := (.string ⟨#[]⟩)) rfl (by kernel_rfl) (by kernel_rfl) (by kernel_rfl) (fun _ _ _ h => h) (Or.inl ⟨by rfl, ?_⟩) ?_
              · intro W
                go_simp
              try simp only [Act.put, List.setIfInBounds_toArray, List.set_cons_zero, List.set_cons_succ]
              refine wpAny_take (i := 16) (oi := ⟨some 55, _, _, _, _, _⟩) (v := (.bool false)) rfl (by kernel_rfl) (by kernel_rfl) (by kernel_rfl) (fun _ _ _ h => h) (Or.inl ⟨by rfl, ?_⟩) ?_
              · intro W
                go_simp
              try simp only [Act.put, List.setIfInBounds_toArray, List.set_cons_zero, List.set_cons_succ]
              refine wpAny_take (i := 17) (oi := ⟨some 56, _, _, _, _, _⟩) (v := (.bool false)) rfl (by kernel_rfl) (by kernel_rfl) (by kernel_rfl) (fun _ _ _ h => h) (Or.inl ⟨by rfl, ?_⟩) ?_
              · intro W
                go_simp
              try simp only [Act.put, List.setIfInBounds_toArray, List.set_cons_zero, List.set_cons_succ]
              refine wpAny_take (i := 18) (oi := ⟨some 57, _, _, _, _, _⟩) (v := undef) rfl (by kernel_rfl) (by kernel_rfl) (by kernel_rfl) (fun _ _ _ h => h) (Or.inr ⟨by rfl, rfl⟩) ?_
              try simp only [Act.put, List.setIfInBounds_toArray, List.set_cons_zero, List.set_cons_succ]
              refine wpAny_take (i := 19) (oi := ⟨some 58, _, _, _, _, _⟩) (v := undef) rfl (by kernel_rfl) (by kernel_rfl) (by kernel_rfl) (fun _ _ _ h => h) (Or.inr ⟨by rfl, rfl⟩) ?_
              try simp only [Act.put, List.setIfInBounds_toArray, List.set_cons_zero, List.set_cons_succ]
              refine wpAny_take (i := 20) (oi := ⟨some 59, _, _, _, _, _⟩) (v := undef) rfl (by kernel_rfl) (by kernel_rfl) (by kernel_rfl) (fun _ _ _ h => h) (Or.inr ⟨by rfl, rfl⟩) ?_
              try simp only [Act.put, List.setIfInBounds_toArray, List.set_cons_zero, List.set_cons_succ]
              refine wpAny_take (i := 21) (oi := ⟨some 60, _, _, _, _, _⟩) (v := undef) rfl (by kernel_rfl) (by kernel_rfl) (by kernel_rfl) (fun _ _ _ h => h) (Or.inr ⟨by rfl, rfl⟩) ?_
              try simp only [Act.put, List.setIfInBounds_toArray, List.set_cons_zero, List.set_cons_succ]
              refine wpAny_take (i := 22) (oi := ⟨some 61, _, _, _, _, _⟩) (v := undef) rfl (by kernel_rfl) (by kernel_rfl) (by kernel_rfl) (fun _ _ _ h => h) (Or.inr ⟨by rfl, rfl⟩) ?_
              try simp only [Act.put, List.setIfInBounds_toArray, List.set_cons_zero, List.set_cons_succ]
              refine wpAny_take (i := 23) (oi := ⟨some 62, _, _, _, _, _⟩) (v := (.bool false)) rfl (by kernel_rfl) (by kernel_rfl) (by kernel_rfl) (fun _ _ _ h => h) (Or.inl ⟨by rfl, ?_⟩) ?_
              · intro W
                go_simp
              try simp only [Act.put, List.setIfInBounds_toArray, List.set_cons_zero, List.set_cons_succ]
              refine wpAny_take (i := 24) (oi := ⟨some 63, _, _, _, _, _⟩) (v := (.bool false)) rfl (by kernel_rfl) (by kernel_rfl) (by kernel_rfl) (fun _ _ _ h => h) (Or.inl ⟨by rfl, ?_⟩) ?_
              · intro W
                go_simp
              try simp only [Act.put, List.setIfInBounds_toArray, List.set_cons_zero, List.set_cons_succ]
              refine wpAny_done (by kernel_rfl) ?_ _
              go_wp2_with fail
              go_meet
              exact ⟨rfl, (HO.out.below HL2.out).three⟩
            exact AllReady.nil
          exact AllReady.nil
        exact AllReady.nil
      exact AllReady.nil
  obtain ⟨rfl, hp⟩ := hcut
  have HQ6 := Lib.hid hp
  clear hp HQ5
  generalize wc = W6 at *
  obtain ⟨f, Bx, n, cx, bb, hn9, hncx, hbb, hne, hgx, hT6⟩ := HQ6.out
  have HT6 := Lib.hid hT6
  clear hT6 HQ6
  go_wp2_with fail
  go_loopw [11] (fun i wr => ∃ k : Nat, k ≤ n ∧ i = .int .i64 (k : Int) ∧ TellsAt w2 gx bb n cx f Bx wr) (fun i _ => n - (intOf i).toNat)
  case atStart => exact ⟨0, Nat.zero_le _, rfl, HT6.out⟩
  case round =>
    obtain ⟨k, hk, rfl, hwr⟩ := hrel
    have HWR := Lib.hid hwr
    obtain ⟨-, -, -, -, -, -, -, -, -, -, -, -, -, -, d14⟩ := hwr.box.cells
    by_cases hlt : k < n
    · have q1 : (k : Int) < (n : Int) := by omega
      have q3 : (n : Int) ≤ 9000 := by omega
      obtain ⟨rfl, hany⟩ := hwr.row (by omega)
      obtain ⟨⟨v, kc⟩, kz⟩ := hany.cell hlt
      clear hany hwr
      go_wp2_with fail
      exact ⟨⟨k + 1, by omega, by go_num, HWR.out.set hbb hne k _⟩, by simp [intOf]; omega⟩
    · have q1 : ¬ (k : Int) < (n : Int) := by omega
      have q2 : decide ((k : Int) < (n : Int)) = false := decide_eq_false q1
      go_upto_region 12 with fail
      clear d14 q1 q2
      have hW := hwr.old
      have HX9 := Lib.hid (HX2.out.below hW)
      have HR9 := Lib.hid (HR2.out.below hW)
      have HP9 := Lib.hid (HP.out.below hW)
      have HB9 := Lib.hid (below_to HB2.out hW HB2.out.size)
      clear hwr HWR hW HX2 HR2 HP HB2 HM HT6
      obtain ⟨g12, c12, W12, run12, mine12, _, _, _⟩ := (Mine.first (Below.refl wr.heap.size wr)).append bs (.slice A bs.length c) (HR9.out.below (below_al (Below.refl _ _) _)) (by simp; omega)
      rw [List.nil_append] at run12 mine12
      have E12 := Lib.hid run12
      have HX12 := Lib.hid (HX9.out.below mine12.old)
      have HP12 := Lib.hid (HP9.out.below mine12.old)
      have HB12 := Lib.hid (below_to HB9.out mine12.old HB9.out.size)
      have HR12 := Lib.hid mine12.rd
      clear run12 mine12 HR9 HP9 HB9
      obtain ⟨-, -, -, -, -, -, -, -, -, -, -, -, -, -, a14⟩ := HX9.out.cells
      obtain ⟨-, -, -, -, -, -, -, -, -, -, -, -, -, -, b14⟩ := (HX9.out.below (below_al (Below.refl _ _) (.cells #[] 5))).cells
      obtain ⟨-, -, -, -, -, -, -, -, -, -, -, -, -, -, e14⟩ := HX12.out.cells
      have z14 := HX12.out.free 14
      have hmin := HMIN.out
      clear HX9
      go_upto_region 13 with (at_builtin; refine wpList_append_eq rfl (.tmp 75) (.tmp 82) 22 rfl _ _ rfl rfl _ _ E12.out ?_)
      have HX13 : Hid (BoxAt (W12.setCell ⟨w.heap.size, 14, none⟩ (.slice (some ⟨g12, 0, none⟩) bs.length c12)) w.heap.size ⟨dst, src, vlan, ty, bs⟩ (.slice (some ⟨g12, 0, none⟩) bs.length c12)) := (HX12.out.set14 _).bytes bs
      have HP13 := Lib.hid (HP12.out.over14 HX12.out (.slice (some ⟨g12, 0, none⟩) bs.length c12))
      have HR13 := Lib.hid (HR12.out.over14 HX12.out (.slice (some ⟨g12, 0, none⟩) bs.length c12))
      have HB13 := Lib.hid (HB12.out.setCell (p := ⟨w.heap.size, 14, none⟩) (Nat.le_refl _) (.slice (some ⟨g12, 0, none⟩) bs.length c12))
      clear a14 b14 e14 z14 hmin E12 HX12 HP12 HR12 HB12 HMIN
      generalize W12.setCell ⟨w.heap.size, 14, none⟩ (.slice (some ⟨g12, 0, none⟩) bs.length c12) = W13 at *
      obtain ⟨out, t, hfb⟩ := fb_any ⟨dst, src, vlan, ty, bs⟩ hty0 hK2
      have hby := hfb.bytes (some ⟨g12, 0, none⟩) c12
      have hre := hfb.ref
      have HOL : Hid (out.length ≤ 9000) := hfb.few
      dsimp only at hby
      have XB := Lib.hid hby
      have XR := Lib.hid hre
      clear hby hre hfb
      obtain ⟨d0, d1, d2, d3, d4, d5, d6, d7, d8, d9, d10, d11, d12, d13, d14⟩ := HX13.out.cells
      simp only at d0 d1 d2 d3 d4 d5 d6 d7 d8 d9 d10 d11 d12 d13 d14
      go_wp2_with fail
      refine (XB.out W13 HR13.out).mono ?_
      rintro e w22 ⟨C, cc, ev, rfl, hC, hrC, hT, hl⟩
      clear d0 d1 d2 d3 d4 d5 d6 d7 d8 d9 d10 d11 d12 d13 d14
      have HX22 := Lib.hid (HX13.out.below hl)
      have HR22 := Lib.hid (HR13.out.below hl)
      have HP22 := Lib.hid (HP13.out.below hl)
      have HL22 := Lib.hid hl
      have HC := Lib.hid hC
      have HRC := Lib.hid hrC
      have HT := Lib.hid hT
      clear hl hC hrC hT HP13
      obtain ⟨d0, d1, d2, d3, d4, d5, d6, d7, d8, d9, d10, d11, d12, d13, d14⟩ := HX22.out.cells
      simp only at d0 d1 d2 d3 d4 d5 d6 d7 d8 d9 d10 d11 d12 d13 d14
      go_wp2_with fail
      refine (of_any ⟨dst, src, vlan, ty, bs⟩ (some ⟨g12, 0, none⟩) c12 w22 hty0 HR22.out).mono ?_
      rintro e w23 ⟨rfl, hl23⟩
      clear d0 d1 d2 d3 d4 d5 d6 d7 d8 d9 d10 d11 d12 d13 d14 HX22 HR22
      go_wp2_with fail
      refine (XR.out w23).mono ?_
      rintro e w24 ⟨rfl, hl24⟩
      have hl25 := below_to hl23 hl24 hl23.size
      have HL24 := Lib.hid hl25
      clear hl23 hl24 hl25
      go_upto_region 15 with fail
      have v1 := convert_rd (HP22.out.below HL24.out)
      have v2 := convert_rd (HRC.out.below HL24.out)
      generalize txt ls = tl at *
      generalize htq : txt out = tq at *
      have HTQ := Lib.hid htq
      clear htq
      go_wp2_with fail
      refine (HT.out w24 HL24.out).mono ?_
      rintro e w25 ⟨rfl, hl25⟩
      obtain ⟨bb2, hbb2, hsec⟩ := sec_of HC.out HL22.out (below_to HL24.out hl25 HL24.out.size)
      have HS2 := Lib.hid hsec
      clear hsec hl25 v1 v2 HP22 HRC HT HC HL22 HL24
      go_wp2_with fail
      go_loopw [16] (fun i wz => ∃ k : Nat, k ≤ out.length ∧ i = .int .i64 (k : Int) ∧ SecAt W13 bb2 out.length C wz) (fun i _ => out.length - (intOf i).toNat)
      case atStart => exact ⟨0, Nat.zero_le _, rfl, HS2.out⟩
      case round =>
        obtain ⟨k2, hk2, rfl, hwz⟩ := hrel
        have HWZ := Lib.hid hwz
        have hq3 : out.length ≤ 9000 := HOL.out
        by_cases hlt2 : k2 < out.length
        · have q1 : (k2 : Int) < (out.length : Int) := by omega
          have q3 : (out.length : Int) ≤ 9000 := by omega
          obtain ⟨rfl, hany⟩ := hwz.row (by omega)
          obtain ⟨⟨v, kc⟩, kz⟩ := hany.cell hlt2
          clear hany hwz
          go_wp2_with fail
          exact ⟨⟨k2 + 1, by omega, by go_num, HWZ.out.set hbb2 k2 _⟩, by simp [intOf]; omega⟩
        · have q1 : ¬ (k2 : Int) < (out.length : Int) := by omega
          have q2 : decide ((k2 : Int) < (out.length : Int)) = false := decide_eq_false q1
          have hW := hwz.old
          have HX30 := Lib.hid (HX13.out.below hW)
          have HR30 := Lib.hid (HR13.out.below hW)
          have HB30 := Lib.hid (below_to HB13.out hW HB13.out.size)
          clear hwz HWZ hW HX13 HR13 HB13 HS2
          go_upto_region 21 with fail
          clear q1 q2
          obtain ⟨d0, d1, d2, d3, d4, d5, d6, d7, d8, d9, d10, d11, d12, d13, d14⟩ := HX30.out.cells
          simp only at d0 d1 d2 d3 d4 d5 d6 d7 d8 d9 d10 d11 d12 d13 d14
          go_wp2_with fail
          refine (XB.out wr HR30.out).mono ?_
          rintro e w31 ⟨C2, cc2, ev2, rfl, hC, hrC, hT, hl⟩
          clear d0 d1 d2 d3 d4 d5 d6 d7 d8 d9 d10 d11 d12 d13 d14 hC hT
          have HX31 := Lib.hid (HX30.out.below hl)
          have HB31 := Lib.hid (below_to HB30.out hl HB30.out.size)
          have HRC := Lib.hid hrC
          clear hl hrC HX30 HR30 HB30
          go_upto_region 22 with fail
          have KS : Hid (∀ W, Below w31.heap.size w31 W → (W.cell? ⟨w.heap.size, 0, none⟩ = some (.int .u8 dst.a.toNat) ∧ W.cell? ⟨w.heap.size, 1, none⟩ = some (.int .u8 dst.b.toNat) ∧ W.cell? ⟨w.heap.size, 2, none⟩ = some (.int .u8 dst.c.toNat) ∧ W.cell? ⟨w.heap.size, 3, none⟩ = some (.int .u8 dst.d.toNat) ∧ W.cell? ⟨w.heap.size, 4, none⟩ = some (.int .u8 dst.e.toNat) ∧ W.cell? ⟨w.heap.size, 5, none⟩ = some (.int .u8 dst.f.toNat)) ∧ (convert 22 9 (.slice C2 out.length cc2)).run Tryd.prog W = .ok (.string tq) W) := fun W h => by
            have hc := (HX31.out.below h).cells
            have v := convert_rd (HRC.out.below h)
            rw [HTQ.out] at v
            exact ⟨⟨hc.1, hc.2.1, hc.2.2.1, hc.2.2.2.1, hc.2.2.2.2.1, hc.2.2.2.2.2.1⟩, v⟩
          clear HX31 HRC HTQ
          go_region_held_law (fun W => (W.cell? ⟨w.heap.size, 0, none⟩ = some (.int .u8 dst.a.toNat) ∧ W.cell? ⟨w.heap.size, 1, none⟩ = some (.int .u8 dst.b.toNat) ∧ W.cell? ⟨w.heap.size, 2, none⟩ = some (.int .u8 dst.c.toNat) ∧ W.cell? ⟨w.heap.size, 3, none⟩ = some (.int .u8 dst.d.toNat) ∧ W.cell? ⟨w.heap.size, 4, none⟩ = some (.int .u8 dst.e.toNat) ∧ W.cell? ⟨w.heap.size, 5, none⟩ = some (.int .u8 dst.f.toNat)) ∧ (convert 22 9 (.slice C2 out.length cc2)).run Tryd.prog W = .ok (.string tq) W)
            (first | assumption | exact KS.out _ HL32.out | exact KS.out _ (below_drew w31))
            (first | (go_at_call 11; (with_reducible refine (group_any dst w31.drew).mono ?_); rintro e w32 ⟨rfl, hl32⟩; (have HL32 := Lib.hid ((below_drew w31).trans hl32)); clear hl32))
          all_goals
            go_wp2_with fail
            go_ret
            exact ⟨by simp [Int.tmod_eq_emod_of_nonneg (Int.natCast_nonneg _)], below_to HB31.out HL32.out HB31.out.size⟩
end Go.Proofs.YtifjelinojndoaaDoor
