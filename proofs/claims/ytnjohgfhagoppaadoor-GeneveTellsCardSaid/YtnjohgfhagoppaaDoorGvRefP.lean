/-
  What is proved: the document's Decap of layer 12 by contract, with all of its outcomes.
  Conditions: the bytes are fewer than 2^39.
-/
import Derived.Test.YtnjohgfhagoppaaDoorGvRefD
namespace Go.Proofs.YtnjohgfhagoppaaDoor
open Go.RowKit

def strLen (v : Value) : Nat := match v with
  | .string t => t.size
  | _ => 0
/-- What the document's Decap answers. -/
def RD (bs : List UInt8) (w : World) (e : Ending) (w' : World) : Prop :=
  (gCode bs ≠ 0 ∧ e = .returned (.tuple #[.int .u32 0, .slice none 0 0, .string ⟨#[]⟩, .int .i64 (gCode bs : Nat), .bool (gInner bs)]) ∧ Below w.heap.size w w') ∨
    (gCode bs = 0 ∧ ∃ sv lx, e = .returned (.tuple #[.int .u32 (xId bs : Int), sv, .string (txt (gEnd bs)), .int .i64 0, .bool false]) ∧ lx.map Ox.p = gOps bs ∧ Rq w.heap.size w' sv lx ∧ Below w.heap.size w w')
set_option maxRecDepth 20000 in
set_option maxHeartbeats 4000000 in
theorem rgdecap_loop (T : ByteArray) (b0 b1 b2 b3 : UInt8) (mid r9 : List UInt8) (w : World) (hsz : T.size = 8 + (mid.length + r9.length)) (hml : mid.length = 4 * b0.toNat) (hrl : r9.length ≤ 549755813888)
    (i0 : ∀ W, (Instr.index 9 (.string T) (.int .i64 0)).run Tryd.prog W = .ok (.int .u8 (b0.toNat : Int)) W) (i1 : ∀ W, (Instr.index 9 (.string T) (.int .i64 1)).run Tryd.prog W = .ok (.int .u8 (b1.toNat : Int)) W)
    (i2 : ∀ W, (Instr.index 9 (.string T) (.int .i64 2)).run Tryd.prog W = .ok (.int .u8 (b2.toNat : Int)) W) (i3 : ∀ W, (Instr.index 9 (.string T) (.int .i64 3)).run Tryd.prog W = .ok (.int .u8 (b3.toNat : Int)) W)
    (x1 : T.extract 8 (8 + 4 * b0.toNat) = txt mid) (x2 : T.extract (8 + 4 * b0.toNat) (8 + (4 * b0.toNat + r9.length)) = txt r9)
    (hb0 : b0.toNat < 64) (hb1 : b1.toNat < 128) (h101 : (b2.toNat : Int) = 101) (h88 : (b3.toNat : Int) = 88) (TI : ByteArray) (idn : Int) (x3 : T.extract 4 7 = TI) (hN : ∀ W, Calls Tryd.prog 38 #[.string TI] W fun e w' => e = .returned (.int .u32 idn) ∧ W = w') (Q : Ending → World → Prop)
    (hframe : ∀ w' l, ops mid = some l → opCrit l = (b1.toNat / 64 % 2 == 1) → frameWrong r9.length ≠ 0 → Below w.heap.size w w' → Q (.returned (.tuple #[.int .u32 0, .slice none 0 0, .string ⟨#[]⟩, .int .i64 (frameWrong r9.length : Nat), .bool false])) w')
    (hgood : ∀ w' sv (lx : List Ox), ops mid = some (lx.map Ox.p) → opCrit (lx.map Ox.p) = (b1.toNat / 64 % 2 == 1) → frameWrong r9.length = 0 → Rq w.heap.size w' sv lx → Below w.heap.size w w' → Q (.returned (.tuple #[.int .u32 idn, sv, .string (txt r9), .int .i64 0, .bool false])) w')
    (hbad : ∀ w', (∀ l, ops mid = some l → opCrit l ≠ (b1.toNat / 64 % 2 == 1)) → Below w.heap.size w w' → Q (.returned (.tuple #[.int .u32 0, .slice none 0 0, .string ⟨#[]⟩, .int .i64 3, .bool false])) w') :
    Calls Tryd.prog 19 #[.string T] w Q := by
  have q0 : decide ((64 : Int) ≤ (b0.toNat : Int)) = false := decide_eq_false (by omega)
  have q1 : decide ((128 : Int) ≤ (b1.toNat : Int)) = false := decide_eq_false (by omega)
  have hm : Int.tmod (b0.toNat : Int) 64 = (b0.toNat : Int) := by rw [Int.tmod_eq_emod_of_nonneg (by omega)]; omega
  have hs1 : ¬ T.size < 8 := by omega
  have HBad := Lib.hid hbad
  have HFrame := Lib.hid hframe
  have HGood := Lib.hid hgood
  have HN := Lib.hid hN
  have hrest : (8 + (4 * (b0.toNat : Int) + (r9.length : Int)) - 8 - 4 * (b0.toNat : Int)) = (r9.length : Int) := by omega
  clear hbad hframe hgood hN
  go_enter Tryd.func19, Tryd.ntmps19
  go_wp2_with fail
  clear i2 i3
  go_loopw [8, 9, 10] (fun s8 s9 _ wr => ∃ (lx : List Ox) (r : List UInt8), s8 = .string (txt r) ∧ Rq w.heap.size wr s9 lx ∧ (ops mid = (ops r).map fun m => lx.map Ox.p ++ m) ∧ r.length % 4 = 0 ∧ 4 * lx.length + r.length ≤ mid.length ∧ Below w.heap.size w wr) (fun s8 _ _ _ => strLen s8)
  case atStart => exact ⟨[], mid, by rw [x1], Rq.nil _ _, by simp, by omega, by simp, Below.refl _ _⟩
  case round =>
    obtain ⟨lx, r, rfl, hq, hops, h4, hfew, hB⟩ := hrel
    have HQ := Lib.hid hq
    have HOP := Lib.hid hops
    have HFW := Lib.hid hfew
    have HH4 := Lib.hid h4
    have HB := Lib.hid hB
    clear hq hops hfew hB
    by_cases hr : r = []
    · subst hr
      rw [show txt [] = ⟨#[]⟩ from rfl]
      obtain ⟨A, c, rfl, ho⟩ := HQ.out.ops
      have htold := HOP.out
      rw [ops_nil] at htold
      have HTD : Hid (ops mid = some (lx.map Ox.p)) := by show _ = _; rw [htold]; simp
      have hfewn : (lx.map Ox.p).length ≤ 1000 := by have := HFW.out; rw [List.length_map]; simp at this; omega
      have HSm : Hid (∀ k, _) := fun k => rsome_any A (lx.map Ox.p) c (wr.drewN k) (ho.below (gbelow_drawn (k := k) (Below.refl _ wr))) (by omega)
      clear htold ho
      generalize hlm : lx.map Ox.p = lm at *
      have HLM := Lib.hid hlm
      clear hlm
      have HBit : Hid (∀ B : Bool, (b1.toNat / 64 % 2 == 1) = B → opCrit lm ≠ B → ∀ l, ops mid = some l → opCrit l ≠ (b1.toNat / 64 % 2 == 1)) := fun B h1 h2 l h3 => by
        rw [HTD.out] at h3
        cases h3
        rw [h1]
        exact h2
      have HZ : Hid (∀ W, _) := fun W => rsize_any r9.length W
      obtain ⟨B, hBB⟩ : ∃ B : Bool, (b1.toNat / 64 % 2 == 1) = B := ⟨_, rfl⟩
      have HBB := Lib.hid hBB
      have hq : Int.tmod ((b1.toNat : Int) / 64) 2 = if B then 1 else 0 := by
        rw [Int.tmod_eq_emod_of_nonneg (by omega), ← hBB]
        by_cases h : b1.toNat / 64 % 2 = 1
        · rw [h]; simp; omega
        · have h2 : b1.toNat / 64 % 2 = 0 := by omega
          rw [h2]; simp; omega
      clear hBB
      by_cases hcr : opCrit lm = B
      · have HCR := Lib.hid hcr
        rw [hcr] at HSm
        by_cases hfw : frameWrong r9.length = 0
        · have HFR := Lib.hid hfw
          rw [hfw] at HZ
          cases B
          all_goals
            clear hcr hfw
            go_upto_region 18 with fail
            go_quiet ((go_at_call 45; exact Calls.quiet_of_same ((HSm.out _).mono fun _ _ ⟨p, q⟩ => ⟨p, q.symm⟩)))
            go_wp2_with fail
            try rw [hrest]
            refine (HZ.out _).mono ?_
            rintro e w' ⟨rfl, rfl⟩
            have p1 : (7 : Int) ≤ 8 + (4 * (b0.toNat : Int) + (r9.length : Int)) := by omega
            have p2 : 8 + 4 * (b0.toNat : Int) ≤ 8 + (4 * (b0.toNat : Int) + (r9.length : Int)) := by omega
            have p3 : (0 : Int) ≤ 8 + 4 * (b0.toNat : Int) := by omega
            have p4 : (8 + 4 * (b0.toNat : Int)).toNat = 8 + 4 * b0.toNat := by omega
            go_upto_region 23 with fail
            go_quiet ((go_at_call 38; exact (HN.out _).mono fun _ _ ⟨p, q⟩ => ⟨p, _, q.symm⟩))
            go_wp2_with fail
            (try simp only [Exit.inBlock, Exit.then])
            refine bodyPost_ret (results_tmp5 rfl _ _ _) rfl ?_
            first
              | exact HGood.out _ _ lx (by rw [HLM.out]; exact HTD.out) (by rw [HLM.out, HCR.out, HBB.out]) HFR.out (HQ.out.below (gbelow_drawn (gbelow_drawn (Below.refl _ wr)))) (below_to HB.out (gbelow_drawn (gbelow_drawn (Below.refl _ wr))) HB.out.size)
              | exact HGood.out _ _ lx (by rw [HLM.out]; exact HTD.out) (by rw [HLM.out, HCR.out, HBB.out]) HFR.out (HQ.out.below (gbelow_drawn (Below.refl _ wr))) (below_to HB.out (gbelow_drawn (Below.refl _ wr)) HB.out.size)
        · have HFR := Lib.hid hfw
          have hfw' : ¬ ((frameWrong r9.length : Nat) : Int) = 0 := by omega
          cases B
          all_goals
            clear hcr hfw
            go_upto_region 18 with fail
            go_quiet ((go_at_call 45; exact Calls.quiet_of_same ((HSm.out _).mono fun _ _ ⟨p, q⟩ => ⟨p, q.symm⟩)))
            go_wp2_with fail
            try rw [hrest]
            refine (HZ.out _).mono ?_
            rintro e w' ⟨rfl, rfl⟩
            go_wp2_with fail
            (try simp only [Exit.inBlock, Exit.then])
            refine bodyPost_ret (results_tmp5 rfl _ _ _) rfl ?_
            exact HFrame.out _ lm HTD.out (by rw [HCR.out, HBB.out]) HFR.out (below_to HB.out (gbelow_drawn (Below.refl _ wr)) HB.out.size)
      · have HCR := Lib.hid hcr
        have hcn : opCrit lm = !B := by cases hx : opCrit lm <;> cases B <;> simp_all
        rw [hcn] at HSm
        cases B
        all_goals
          clear hcr hcn
          go_upto_region 18 with fail
          go_quiet ((go_at_call 45; exact Calls.quiet_of_same ((HSm.out _).mono fun _ _ ⟨p, q⟩ => ⟨p, q.symm⟩)))
          go_wp2_with fail
          (try simp only [Exit.inBlock, Exit.then])
          refine bodyPost_ret (results_tmp5 rfl _ _ _) rfl ?_
          exact HBad.out _ (HBit.out _ HBB.out HCR.out) (below_to HB.out (gbelow_drawn (Below.refl _ wr)) HB.out.size)
    · obtain ⟨c0, c1, c2, c3, t, rfl⟩ := four (show 4 ≤ r.length by have := List.length_pos_iff.2 hr; omega)
      have hR := txt_size (c0 :: c1 :: c2 :: c3 :: t)
      have hR4 : (c0 :: c1 :: c2 :: c3 :: t).length = t.length + 4 := rfl
      rw [hR4] at hR
      have hRne : (txt (c0 :: c1 :: c2 :: c3 :: t)).toList.isEmpty = false := (congrArg List.isEmpty (ByteArray.toList_mk (c0 :: c1 :: c2 :: c3 :: t))).trans rfl
      have j0 := fun W => xtxt_index (c0 :: c1 :: c2 :: c3 :: t) 0 c0 rfl 0 rfl W
      have j1 := fun W => xtxt_index (c0 :: c1 :: c2 :: c3 :: t) 1 c1 rfl 1 rfl W
      have j2 := fun W => xtxt_index (c0 :: c1 :: c2 :: c3 :: t) 2 c2 rfl 2 rfl W
      have j3 := fun W => xtxt_index (c0 :: c1 :: c2 :: c3 :: t) 3 c3 rfl 3 rfl W
      have y1 : (txt (c0 :: c1 :: c2 :: c3 :: t)).extract 4 (4 + 4 * c3.toNat) = txt (t.take (4 * c3.toNat)) := by rw [xtxt_mid, show 4 + 4 * c3.toNat - 4 = 4 * c3.toNat by omega]; rfl
      have y2 : (txt (c0 :: c1 :: c2 :: c3 :: t)).extract (4 + 4 * c3.toNat) (t.length + 4) = txt (t.drop (4 * c3.toNat)) := by
        rw [xtxt_mid]
        congr 1
        rw [← List.drop_drop]
        exact List.take_of_length_le (by show (t.drop (4 * c3.toNat)).length ≤ _; rw [List.length_drop]; omega)
      have hop := HOP.out
      rw [ops_cons] at hop
      generalize txt (c0 :: c1 :: c2 :: c3 :: t) = R at *
      by_cases hb : 32 ≤ c3.toNat ∨ t.length < 4 * c3.toNat
      · rw [if_pos hb] at hop
        have hbd := HBad.out
        have HOPN : Hid (ops mid = none) := hop
        by_cases h32 : 32 ≤ c3.toNat
        · have r1 : decide ((32 : Int) ≤ (c3.toNat : Int)) = true := decide_eq_true (by omega)
          clear hop hbd
          go_wp2_with fail
          (try simp only [Exit.inBlock, Exit.then])
          refine bodyPost_ret (results_tmp5 rfl _ _ _) rfl ?_
          exact HBad.out _ (fun l h => by rw [HOPN.out] at h; cases h) HB.out
        · have r1 : decide ((32 : Int) ≤ (c3.toNat : Int)) = false := decide_eq_false (by omega)
          have r2 : ((t.length : Int) + 4) < 4 + 4 * (c3.toNat : Int) := by omega
          have r3 := c3.toNat_lt
          clear hop hbd
          go_wp2_with fail
          (try simp only [Exit.inBlock, Exit.then])
          refine bodyPost_ret (results_tmp5 rfl _ _ _) rfl ?_
          exact HBad.out _ (fun l h => by rw [HOPN.out] at h; cases h) HB.out
      · rw [if_neg hb] at hop
        have r1 : decide ((32 : Int) ≤ (c3.toNat : Int)) = false := decide_eq_false (by omega)
        have r2 : ¬ ((t.length : Int) + 4) < 4 + 4 * (c3.toNat : Int) := by omega
        have r3 : c3.toNat < 32 := by omega
        have k1 : (0 : Int) ≤ 4 + 4 * (c3.toNat : Int) := by omega
        have k2 : (4 : Int) ≤ 4 + 4 * (c3.toNat : Int) := by omega
        have k3 : (4 + 4 * (c3.toNat : Int)).toNat = 4 + 4 * c3.toNat := by omega
        have k4 : 4 + 4 * (c3.toNat : Int) ≤ (t.length : Int) + 4 := by omega
        have hlt : (t.take (4 * c3.toNat)).length = 4 * c3.toNat := by rw [List.length_take]; omega
        obtain ⟨kc, W1, hcv, hrd1, hB1, hblk, hkc⟩ := gbytes_of_txt wr.drew (t.take (4 * c3.toNat)) (by omega)
        rw [hlt, World.size_drew] at hcv hrd1
        rw [World.size_drew] at hblk
        have HRD1 := Lib.hid hrd1
        have HB1 := Lib.hid hB1
        have HBL := Lib.hid hblk
        have HHOP := Lib.hid hop
        have a1 : IntKind.u16.bits = 16 := rfl
        have a2 : IntKind.u16.signed = false := rfl
        have l0 := c0.toNat_lt
        have l1 := c1.toNat_lt
        obtain ⟨x, hxd⟩ : ∃ x : Ox, x = ⟨⟨c0.toNat * 256 + c1.toNat, c2.toNat, t.take (4 * c3.toNat)⟩, some ⟨wr.heap.size, 0, none⟩, kc⟩ := ⟨_, rfl⟩
        have hxl : x.p.b.length = 4 * c3.toNat := by rw [hxd]; exact hlt
        have hsl : x.sl = .slice (some ⟨wr.heap.size, 0, none⟩) (4 * c3.toNat) kc := by unfold Ox.sl; rw [hxl, hxd]
        have hxb : x.p.b = t.take (4 * c3.toNat) := by rw [hxd]
        have hx : Rd W1 x.sl x.p.b ∧ x.k ≤ 9223372036854775807 ∧ ∀ g, x.sl.ownBlock = some g → ∃ c fr, W1.heap[g]? = some (.cells c 5 fr) := by
          refine ⟨by rw [hsl, hxb]; exact hrd1, by rw [hxd]; exact hkc, fun g hg => ?_⟩
          rw [hsl] at hg
          cases hg
          exact hblk
        have hrow : opRow x.p.c x.p.t x.sl = #[.int .u16 ((c0.toNat * 256 + c1.toNat : Nat) : Int), .int .u8 (c2.toNat : Int), .slice (some ⟨wr.heap.size, 0, none⟩) (4 * c3.toNat) kc] := by rw [hsl, hxd]; rfl
        have HPU : Hid (∀ C : Int, C = (((c0.toNat * 256 + c1.toNat : Nat)) : Int) → ∀ Kp : Value → World → Prop, (∀ sv' W', Rq w.heap.size W' sv' (lx ++ [x]) → Below w.heap.size w W' → Kp sv' W') →
            ∃ v' w', (Builtin.append_ #[39, 39] 39 #[u9, .slice (some ⟨W1.heap.size, 0, none⟩) 1 1]).run Tryd.prog (W1.alloc (.cells #[.int .u16 C, .int .u8 (c2.toNat : Int), .slice (some ⟨wr.heap.size, 0, none⟩) (4 * c3.toNat) kc] 50)) = .ok v' w' ∧ Kp v' w') := fun C hC Kp hK => by
          have hB1' : Below wr.heap.size wr W1 := below_to (below_drew wr) hB1 (below_drew wr).size
          have hAl : Below W1.heap.size W1 (W1.alloc (.cells #[.int .u16 C, .int .u8 (c2.toNat : Int), .slice (some ⟨wr.heap.size, 0, none⟩) (4 * c3.toNat) kc] 50)) := (Below.refl _ _).alloc (Nat.le_refl _) _
          have hB3 := below_to hB1' hAl hB1'.size
          have hBw := below_to HB.out hB3 HB.out.size
          have hX : (W1.alloc (.cells #[.int .u16 C, .int .u8 (c2.toNat : Int), .slice (some ⟨wr.heap.size, 0, none⟩) (4 * c3.toNat) kc] 50)).heap[W1.heap.size]? = some (.cells (opRow x.p.c x.p.t x.sl) 50 (0, 0)) := by
            rw [heap_alloc_new, hrow, hC]
          obtain ⟨sv', W', h1, h2, h3⟩ := (HQ.out.below hB3).push hX ⟨hx.1.below hAl, hx.2.1, fun g hg => by obtain ⟨cc, fr, e⟩ := hx.2.2 g hg; exact ⟨cc, fr, (hAl.block g (Array.getElem?_eq_some_iff.1 e).1).trans e⟩⟩ (by have := HFW.out; omega) hBw.size 39 (c := 1)
          exact ⟨sv', W', h1, hK sv' W' h2 (hBw.trans h3)⟩
        have HST : Hid (ops mid = (ops (t.drop (4 * c3.toNat))).map fun m => (lx ++ [x]).map Ox.p ++ m) := by
          show _ = _
          rw [hop, option_map_comp]
          exact congrArg (fun f => Option.map f (ops (t.drop (4 * c3.toNat)))) (funext fun m => by rw [List.map_append, List.append_assoc, List.map_singleton, hxd]; rfl)
        generalize txt (t.take (4 * c3.toNat)) = TT at *
        clear hop hrd1 hB1 hblk hx hxl hxd hsl hxb hrow HHOP
        go_upto_region 16 with fail
        obtain ⟨sv', W2, hrun2, hq2, hb2⟩ := HPU.out ((c0.toNat : Int) * 256 + (c1.toNat : Int)) (by omega) (fun v w' => Rq w.heap.size w' v (lx ++ [x]) ∧ Below w.heap.size w w') (fun _ _ h1 h2 => ⟨h1, h2⟩)
        have ER := Lib.hid hrun2
        have HQ2 := Lib.hid hq2
        have HB2 := Lib.hid hb2
        clear hrun2 hq2 hb2
        refine wp_region_any (by kernel_rfl) ?_
        change wpAny _ _ _ _ _ _ _ (World.drew _)
        refine wpAny_take (i := 0) (oi := ⟨some 65, _, _, _, _, _⟩) (v := u9) rfl (by kernel_rfl) (by kernel_rfl) (by kernel_rfl) (fun _ _ _ h => h) (Or.inl ⟨by rfl, ?_⟩) ?_
        · intro W
          first | (go_simp; done) | (go_simp; simp [IntKind.wrap, a1, a2]; omega)
        try simp only [Act.put, List.setIfInBounds_toArray, List.set_cons_zero, List.set_cons_succ]
        refine wpAny_take (i := 1) (oi := ⟨some 66, _, _, _, _, _⟩) (v := .string R) rfl (by kernel_rfl) (by kernel_rfl) (by kernel_rfl) (fun _ _ _ h => h) (Or.inl ⟨by rfl, ?_⟩) ?_
        · intro W
          first | (go_simp; done) | (go_simp; simp [IntKind.wrap, a1, a2]; omega)
        try simp only [Act.put, List.setIfInBounds_toArray, List.set_cons_zero, List.set_cons_succ]
        refine wpAny_take (i := 2) (oi := ⟨some 67, _, _, _, _, _⟩) (v := .int .u8 (c0.toNat : Int)) rfl (by kernel_rfl) (by kernel_rfl) (by kernel_rfl) (fun _ _ _ h => h) (Or.inl ⟨by rfl, ?_⟩) ?_
        · intro W
          first | (go_simp; done) | (go_simp; simp [IntKind.wrap, a1, a2]; omega)
        try simp only [Act.put, List.setIfInBounds_toArray, List.set_cons_zero, List.set_cons_succ]
        refine wpAny_take (i := 3) (oi := ⟨some 68, _, _, _, _, _⟩) (v := .int .u16 (c0.toNat : Int)) rfl (by kernel_rfl) (by kernel_rfl) (by kernel_rfl) (fun _ _ _ h => h) (Or.inl ⟨by rfl, ?_⟩) ?_
        · intro W
          first | (go_simp; done) | (go_simp; simp [IntKind.wrap, a1, a2]; omega)
        try simp only [Act.put, List.setIfInBounds_toArray, List.set_cons_zero, List.set_cons_succ]
        refine wpAny_take (i := 4) (oi := ⟨some 69, _, _, _, _, _⟩) (v := .int .u16 ((c0.toNat : Int) * 256)) rfl (by kernel_rfl) (by kernel_rfl) (by kernel_rfl) (fun _ _ _ h => h) (Or.inl ⟨by rfl, ?_⟩) ?_
        · intro W
          first | (go_simp; done) | (go_simp; simp [IntKind.wrap, a1, a2]; omega)
        try simp only [Act.put, List.setIfInBounds_toArray, List.set_cons_zero, List.set_cons_succ]
        refine wpAny_take (i := 5) (oi := ⟨some 70, _, _, _, _, _⟩) (v := .string R) rfl (by kernel_rfl) (by kernel_rfl) (by kernel_rfl) (fun _ _ _ h => h) (Or.inl ⟨by rfl, ?_⟩) ?_
        · intro W
          first | (go_simp; done) | (go_simp; simp [IntKind.wrap, a1, a2]; omega)
        try simp only [Act.put, List.setIfInBounds_toArray, List.set_cons_zero, List.set_cons_succ]
        refine wpAny_take (i := 6) (oi := ⟨some 71, _, _, _, _, _⟩) (v := .int .u8 (c1.toNat : Int)) rfl (by kernel_rfl) (by kernel_rfl) (by kernel_rfl) (fun _ _ _ h => h) (Or.inl ⟨by rfl, ?_⟩) ?_
        · intro W
          first | (go_simp; done) | (go_simp; simp [IntKind.wrap, a1, a2]; omega)
        try simp only [Act.put, List.setIfInBounds_toArray, List.set_cons_zero, List.set_cons_succ]
        refine wpAny_take (i := 7) (oi := ⟨some 72, _, _, _, _, _⟩) (v := .int .u16 (c1.toNat : Int)) rfl (by kernel_rfl) (by kernel_rfl) (by kernel_rfl) (fun _ _ _ h => h) (Or.inl ⟨by rfl, ?_⟩) ?_
        · intro W
          first | (go_simp; done) | (go_simp; simp [IntKind.wrap, a1, a2]; omega)
        try simp only [Act.put, List.setIfInBounds_toArray, List.set_cons_zero, List.set_cons_succ]
        refine wpAny_take (i := 8) (oi := ⟨some 73, _, _, _, _, _⟩) (v := .int .u16 ((c0.toNat : Int) * 256 + (c1.toNat : Int))) rfl (by kernel_rfl) (by kernel_rfl) (by kernel_rfl) (fun _ _ _ h => h) (Or.inl ⟨by rfl, ?_⟩) ?_
        · intro W
          first | (go_simp; done) | (go_simp; simp [IntKind.wrap, a1, a2]; omega)
        try simp only [Act.put, List.setIfInBounds_toArray, List.set_cons_zero, List.set_cons_succ]
        refine wpAny_take (i := 9) (oi := ⟨some 74, _, _, _, _, _⟩) (v := .string R) rfl (by kernel_rfl) (by kernel_rfl) (by kernel_rfl) (fun _ _ _ h => h) (Or.inl ⟨by rfl, ?_⟩) ?_
        · intro W
          first | (go_simp; done) | (go_simp; simp [IntKind.wrap, a1, a2]; omega)
        try simp only [Act.put, List.setIfInBounds_toArray, List.set_cons_zero, List.set_cons_succ]
        refine wpAny_take (i := 10) (oi := ⟨some 75, _, _, _, _, _⟩) (v := .int .u8 (c2.toNat : Int)) rfl (by kernel_rfl) (by kernel_rfl) (by kernel_rfl) (fun _ _ _ h => h) (Or.inl ⟨by rfl, ?_⟩) ?_
        · intro W
          first | (go_simp; done) | (go_simp; simp [IntKind.wrap, a1, a2]; omega)
        try simp only [Act.put, List.setIfInBounds_toArray, List.set_cons_zero, List.set_cons_succ]
        refine wpAny_take (i := 11) (oi := ⟨some 76, _, _, _, _, _⟩) (v := .string R) rfl (by kernel_rfl) (by kernel_rfl) (by kernel_rfl) (fun _ _ _ h => h) (Or.inl ⟨by rfl, ?_⟩) ?_
        · intro W
          first | (go_simp; done) | (go_simp; simp [IntKind.wrap, a1, a2]; omega)
        try simp only [Act.put, List.setIfInBounds_toArray, List.set_cons_zero, List.set_cons_succ]
        refine wpAny_take (i := 12) (oi := ⟨some 77, _, _, _, _, _⟩) (v := .int .i64 (4 + 4 * (c3.toNat : Int))) rfl (by kernel_rfl) (by kernel_rfl) (by kernel_rfl) (fun _ _ _ h => h) (Or.inl ⟨by rfl, ?_⟩) ?_
        · intro W
          first | (go_simp; done) | (go_simp; simp [IntKind.wrap, a1, a2]; omega)
        try simp only [Act.put, List.setIfInBounds_toArray, List.set_cons_zero, List.set_cons_succ]
        refine wpAny_take (i := 13) (oi := ⟨some 78, _, _, _, _, _⟩) (v := .string TT) rfl (by kernel_rfl) (by kernel_rfl) (by kernel_rfl) (fun _ _ _ h => h) (Or.inl ⟨by rfl, ?_⟩) ?_
        · intro W
          first | (go_simp; done) | (go_simp; simp [IntKind.wrap, a1, a2]; omega)
        try simp only [Act.put, List.setIfInBounds_toArray, List.set_cons_zero, List.set_cons_succ]
        refine wpAny_ready (rs := [14]) (by kernel_rfl) (by simp) ?_
        refine AllReady.cons (o := ⟨some 79, _, _, _, _, _⟩) rfl (fun K hK => ?_) AllReady.nil
        go_simp
        refine hK _ _ ?_
        clear hK K
        try simp only [Act.put, List.setIfInBounds_toArray, List.set_cons_zero, List.set_cons_succ]
        refine wpAny_take (i := 15) (oi := ⟨some 80, _, _, _, _, _⟩) (v := .agg #[.int .u16 ((c0.toNat : Int) * 256 + (c1.toNat : Int)), .int .u8 (c2.toNat : Int), .slice (some ⟨wr.heap.size, 0, none⟩) (4 * c3.toNat) kc]) rfl (by kernel_rfl) (by kernel_rfl) (by kernel_rfl) (fun _ _ _ h => h) (Or.inl ⟨by rfl, ?_⟩) ?_
        · intro W
          first | (go_simp; done) | (go_simp; simp [IntKind.wrap, a1, a2]; omega)
        try simp only [Act.put, List.setIfInBounds_toArray, List.set_cons_zero, List.set_cons_succ]
        refine wpAny_ready (rs := [16]) (by kernel_rfl) (by simp) ?_
        refine AllReady.cons (o := ⟨some 81, _, _, _, _, _⟩) rfl (fun K hK => ?_) AllReady.nil
        go_simp
        refine hK _ _ ?_
        clear hK K
        try simp only [Act.put, List.setIfInBounds_toArray, List.set_cons_zero, List.set_cons_succ]
        refine wpAny_ready (rs := [17]) (by kernel_rfl) (by simp) ?_
        refine AllReady.cons (o := ⟨some 82, _, _, _, _, _⟩) rfl (fun K hK => ?_) AllReady.nil
        refine gstep_append_eq rfl (.tmp 65) (.tmp 81) 39 rfl u9 (.slice (some ⟨W1.heap.size, 0, none⟩) 1 1) rfl rfl sv' W2 ER.out ?_
        refine hK _ _ ?_
        clear hK K
        try simp only [Act.put, List.setIfInBounds_toArray, List.set_cons_zero, List.set_cons_succ]
        refine wpAny_take (i := 18) (oi := ⟨some 9, _, _, _, _, _⟩) (v := sv') rfl (by kernel_rfl) (by kernel_rfl) (by kernel_rfl) (fun _ _ _ h => h) (Or.inl ⟨by rfl, ?_⟩) ?_
        · intro W
          first | (go_simp; done) | (go_simp; simp [IntKind.wrap, a1, a2]; omega)
        try simp only [Act.put, List.setIfInBounds_toArray, List.set_cons_zero, List.set_cons_succ]
        refine wpAny_done (by kernel_rfl) ?_ _
        go_wp2_with fail
        refine ⟨⟨_, _, _, _, _, _, _, ⟨lx ++ [x], t.drop (4 * c3.toNat), rfl, HQ2.out, HST.out, ?_, ?_, HB2.out⟩, rfl, rfl, rfl, rfl, rfl, rfl, rfl⟩, ?_⟩
        · rw [List.length_drop]
          have := HH4.out
          rw [hR4] at this
          omega
        · rw [List.length_append, List.length_singleton, List.length_drop]
          have := HFW.out
          rw [hR4] at this
          omega
        · show (txt (t.drop (4 * c3.toNat))).size < R.size
          rw [txt_size, List.length_drop, hR]
          omega
end Go.Proofs.YtnjohgfhagoppaaDoor
