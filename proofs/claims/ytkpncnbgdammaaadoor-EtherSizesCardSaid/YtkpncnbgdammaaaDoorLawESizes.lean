/-
  What is proved: the law EtherSizes answers true for any frame and number, and leaves all older memory as it was.
  Conditions: errors.errorType holds the handle of the type error; api.All holds six times 255.
-/
import Derived.Test.YtkpncnbgdammaaaDoorECut
import Derived.Test.YtkpncnbgdammaaaDoorSum
import Derived.Maps.AppendAt
namespace Go.Proofs.YtkpncnbgdammaaaDoor
open Go.RowKit

theorem max_run {P : Program} (ats : Array TypeId) (ty : TypeId) (a b k : Int) (h : k = max a b) (W : World) : (Builtin.max_ ats ty #[.int .i64 a, .int .i64 b]).run P W = .ok (.int .i64 k) W := by
  subst h
  by_cases hba : a < b
  · simp [Builtin.max_, Builtin.max2, hba]
    omega
  · simp [Builtin.max_, Builtin.max2, hba]
    omega
theorem row_of_obj {w : World} {g : Nat} {l : List UInt8} (h : w.heap[g]? = some (bytesObj l)) : Row w g l.length l :=
  ⟨⟨(l.map B8).toArray, h, by simp, by simp [List.take_of_length_le]⟩, Nat.le_refl _⟩

set_option maxRecDepth 100000 in
set_option maxHeartbeats 4000000 in
theorem sizes_any (f0 : Frm) (A : Option Addr) (c : Nat) (more : Int) (w : World) (hg : Hdl w) (ha : AllAt w) (hin : f0.In) (_hr : Rd w (.slice A f0.b.length c) f0.b) (_hc : c ≤ 9223372036854775807) (_h1 : -9223372036854775808 ≤ more) (_h2 : more ≤ 9223372036854775807) :
    Calls Tryd.prog 5 #[f0.val (.slice A f0.b.length c), .int .i64 more] w fun e w' => e = .returned (.bool true) ∧ Below w.heap.size w w' := by
  obtain ⟨dst, src, vlan, ty, b⟩ := f0
  have hty0 : ty < 65536 := hin.ty
  clear _hr _hc
  simp only
  have hb0 : Below w.heap.size w (w.alloc (Frm.obj ⟨dst, src, vlan, ty, b⟩ (.slice A b.length c))) := below_al (Below.refl _ _) _
  have HS := Lib.hid (shown_any _ (hg.below hb0) (ha.below hb0))
  have HX0 := Lib.hid (BoxAt.new w ⟨dst, src, vlan, ty, b⟩ (.slice A b.length c))
  have HB0 := Lib.hid hb0
  have HG := Lib.hid hg
  obtain ⟨v1, hv1⟩ : ∃ v1, v1 = min vlan 65535 := ⟨_, rfl⟩
  obtain ⟨v, hv⟩ : ∃ v, v = max v1 (-1) := ⟨_, rfl⟩
  have hmin := fun W => min_run (P := Tryd.prog) #[3, 3] 3 vlan 65535 v1 hv1 W
  have hmax := fun W => max_run (P := Tryd.prog) #[3, 3] 3 v1 (-1) v hv W
  have hvr : v = -1 ∨ (0 ≤ v ∧ v ≤ 65535) := by omega
  have hand := and_low_i64 more
  obtain ⟨p, hp⟩ : ∃ p : Nat, more % 65536 = (p : Int) := ⟨(more % 65536).toNat, by omega⟩
  rw [hp] at hand
  obtain ⟨k, hkd⟩ : ∃ k, k = p % 100 := ⟨_, rfl⟩
  have hkl : k < 100 := by omega
  have hk : (p : Int) % 100 = (k : Int) := by omega
  clear hg ha hb0 hin hv1 hv hp hkd
  rw [Frm.val_lit]
  unfold Frm.obj at HS
  simp only at HS ⊢
  go_enter Tryd.func5, Tryd.ntmps5
  go_wp2_with fail
  refine HS.out.mono ?_
  rintro e w1 ⟨rfl, hb1⟩
  have HX1 := Lib.hid (HX0.out.below hb1)
  have HB1 := Lib.hid (below_to HB0.out hb1 HB0.out.size)
  have hlt := HX1.out.lt
  clear HS hb1 HX0 HB0
  obtain ⟨c0, c1, c2, c3, c4, c5, c6, c7, c8, c9, c10, c11, c12, c13, c14⟩ := HX1.out.cells
  simp only at c0 c1 c2 c3 c4 c5 c6 c7 c8 c9 c10 c11 c12 c13 c14
  have z12 := HX1.out.free 12
  have z14 := HX1.out.free 14
  rcases hvr with rfl | ⟨hv0, hv9⟩
  · have hvd : ¬ (0 : Int) ≤ -1 := by omega
    obtain ⟨zs, hzs⟩ : ∃ zs : List UInt8, zs = List.replicate (8986 + k) 0 := ⟨_, rfl⟩
    have hzl : zs.length = 8986 + k := by rw [hzs, List.length_replicate]
    have hmk : ∀ W, (Instr.makeSlice 22 (.int .i64 (8986 + (k : Int))) (.int .i64 (8986 + (k : Int)))).run Tryd.prog W = .ok (.slice (some ⟨W.heap.size, 0, none⟩) zs.length zs.length) (W.alloc (bytesObj zs)) := by
      intro W
      have h := make_bytes (8986 + k) (by omega) W
      rw [hzl, hzs]
      simpa using h
    have HZL := Lib.hid hzl
    clear hzs hzl
    go_wp2_with fail
    clear c0 c1 c2 c3 c4 c5 c6 c7 c8 c9 c10 c11 c12 c13 c14 z12 z14 hmin hmax hmk hand
    have x2 : BoxAt (((w1.setCell ⟨w.heap.size, 12, none⟩ (.int .i64 (-1))).alloc (bytesObj zs)).setCell ⟨w.heap.size, 14, none⟩ (.slice (some ⟨w1.heap.size, 0, none⟩) zs.length zs.length)) w.heap.size ⟨dst, src, (-1), ty, zs⟩ (.slice (some ⟨w1.heap.size, 0, none⟩) zs.length zs.length) :=
      ((((HX1.out.set12 (-1)).below (below_al (Below.refl _ _) (bytesObj zs))).set14 _)).bytes zs
    have r1 : Rd ((w1.setCell ⟨w.heap.size, 12, none⟩ (.int .i64 (-1))).alloc (bytesObj zs)) (.slice (some ⟨w1.heap.size, 0, none⟩) zs.length zs.length) zs := by
      have h := bytesObj_new (w1.setCell ⟨w.heap.size, 12, none⟩ (.int .i64 (-1))) zs
      rw [World.size_setCell] at h
      exact Rd.of_obj h (Nat.le_refl _)
    have r2 := r1.over14 ((HX1.out.set12 (-1)).below (below_al (Below.refl _ _) (bytesObj zs))) (.slice (some ⟨w1.heap.size, 0, none⟩) zs.length zs.length)
    have b2 : Below w.heap.size w (((w1.setCell ⟨w.heap.size, 12, none⟩ (.int .i64 (-1))).alloc (bytesObj zs)).setCell ⟨w.heap.size, 14, none⟩ (.slice (some ⟨w1.heap.size, 0, none⟩) zs.length zs.length)) :=
      ((HB1.out.setCell (Nat.le_refl _) _).alloc (by rw [World.size_setCell]; omega) _).setCell (Nat.le_refl _) _
    clear r1
    rw [setCell_alloc_old _ _ _ _ (by rw [World.size_setCell]; exact hlt)] at x2 r2 b2
    generalize ((w1.setCell ⟨w.heap.size, 12, none⟩ (.int .i64 (-1))).setCell ⟨w.heap.size, 14, none⟩ (.slice (some ⟨w1.heap.size, 0, none⟩) zs.length zs.length)).alloc (bytesObj zs) = X at *
    generalize w1.heap.size = gz at *
    have HX2 := Lib.hid x2
    have HR2 := Lib.hid r2
    have HB2 := Lib.hid b2
    clear x2 r2 b2 HX1 HB1 hlt
    have hzl := HZL.out
    by_cases hty : ty = 33024
    · as_aux_lemma =>
        subst hty
        clear hzl
        have FB := Lib.hid (fBytes_arg ⟨dst, src, -1, 33024, zs⟩ ⟨by simp, .inl ⟨rfl, rfl⟩⟩ (some ⟨gz, 0, none⟩) zs.length zs.length X)
        refine FB.out.mono ?_
        rintro e w2 ⟨b2, rfl, hc2, hl2⟩
        have HX3 := Lib.hid (HX2.out.below hl2)
        have HC3 := Lib.hid hc2
        have HB3 := Lib.hid (below_to HB2.out hl2 HB2.out.size)
        clear FB HX2 HR2 HB2 hc2 hl2
        obtain ⟨c0, c1, c2, c3, c4, c5, c6, c7, c8, c9, c10, c11, c12, c13, c14⟩ := HX3.out.cells
        clear c0 c1 c2 c3 c4 c5 c6 c7 c8 c9 c10 c11 c14
        simp only at c12 c13
        go_wp2_with fail
        refine (code_any 1 _ _ _ (HG.out.below HB3.out) HC3.out).mono ?_
        rintro e w6 ⟨rfl, hl6⟩
        have HB6 := Lib.hid (below_to HB3.out hl6 HB3.out.size)
        clear hl6
        go_wp2_with fail
        go_ret
        exact ⟨rfl, HB6.out⟩
    · skip
      have hok : Frm.Ok ⟨dst, src, (-1), ty, zs⟩ := ⟨hty0, .inl ⟨rfl, hty⟩⟩
      have hhd : Frm.head ⟨dst, src, (-1), ty, zs⟩ = 14 := rfl
      by_cases hk0 : 0 < k
      · as_aux_lemma =>
          have FB := Lib.hid (fBytes_big ⟨dst, src, (-1), ty, zs⟩ hok (some ⟨gz, 0, none⟩) zs.length zs.length (by rw [hhd]; omega) (by omega) X)
          clear hzl
          refine FB.out.mono ?_
          rintro e w2 ⟨b2, rfl, hc2, hl2⟩
          have HX3 := Lib.hid (HX2.out.below hl2)
          have HC3 := Lib.hid hc2
          have HB3 := Lib.hid (below_to HB2.out hl2 HB2.out.size)
          clear FB HX2 HR2 HB2 hc2 hl2 hok hhd
          obtain ⟨c0, c1, c2, c3, c4, c5, c6, c7, c8, c9, c10, c11, c12, c13, c14⟩ := HX3.out.cells
          clear c0 c1 c2 c3 c4 c5 c6 c7 c8 c9 c10 c11 c14
          simp only at c12 c13
          go_wp2_with fail
          refine (code_any 7 _ _ _ (HG.out.below HB3.out) HC3.out).mono ?_
          rintro e w6 ⟨rfl, hl6⟩
          have HB6 := Lib.hid (below_to HB3.out hl6 HB3.out.size)
          clear hl6
          go_wp2_with fail
          go_ret
          exact ⟨rfl, HB6.out⟩
      · as_aux_lemma =>
          obtain rfl : k = 0 := by omega
          have hfl := Frm.bs_len ⟨dst, src, (-1), ty, zs⟩
          rw [hhd] at hfl
          simp only at hfl
          have hfl2 : (Frm.bs ⟨dst, src, (-1), ty, zs⟩).length = 9000 := by omega
          have hsz : zs.length = 8986 := by omega
          obtain ⟨fs, hfs⟩ : ∃ fs, fs = Frm.bs ⟨dst, src, (-1), ty, zs⟩ := ⟨_, rfl⟩
          have fb := fBytes_ok ⟨dst, src, (-1), ty, zs⟩ hok (some ⟨gz, 0, none⟩) zs.length X HR2.out (by omega)
          have HSZ := Lib.hid hsz
          clear hzl hsz
          rw [hfl2, ← hfs] at fb
          rw [← hfs] at hfl2
          have FB := Lib.hid fb
          have HFS := Lib.hid hfs
          have HFL := Lib.hid hfl2
          have HOK := Lib.hid hok
          clear fb hfs hfl hfl2 hok hhd
          refine FB.out.mono ?_
          rintro e w3 ⟨b3, rfl, hb3, ho3, hl3⟩
          have hq3 : Rd w3 (.slice (some ⟨b3, 0, none⟩) 9000 9000) fs := by
            have h := Rd.of_obj ho3 (Nat.le_refl _)
            rwa [HFL.out] at h
          have hq3' : ∀ l, fs = l → Rd w3 (.slice (some ⟨b3, 0, none⟩) 9000 9000) l := by rintro l rfl; exact hq3
          have HP := Lib.hid (Parse_ok _ ⟨dst, src, (-1), ty, zs⟩ HOK.out w3 (hq3' _ HFS.out) (by rw [← HFS.out, HFL.out]; exact Nat.le_refl _))
          have HX3 := Lib.hid (HX2.out.below hl3)
          have HB3 := Lib.hid (below_to HB2.out hl3 HB2.out.size)
          have HO3 := Lib.hid ho3
          have HN3 := Lib.hid (show w.heap.size ≤ b3 from Nat.le_trans HB2.out.size hb3)
          clear FB HX2 HR2 HB2 hb3 ho3 hl3 hq3 hq3' HOK HFS
          obtain ⟨c0, c1, c2, c3, c4, c5, c6, c7, c8, c9, c10, c11, c12, c13, c14⟩ := HX3.out.cells
          clear c0 c1 c2 c3 c4 c5 c6 c7 c8 c9 c10 c11 c14
          simp only at c12 c13
          go_wp2_with fail
          with_reducible refine HP.out.mono ?_
          rintro e w4 ⟨b4, he, _, _, hl4⟩
          rw [Frm.val_lit] at he
          simp only at he
          subst he
          have hn : Below w4.heap.size w4 (w4.alloc (Frm.obj ⟨dst, src, (-1), ty, zs⟩ (.slice (some ⟨b4, 0, none⟩) zs.length zs.length))) := below_al (Below.refl _ _) _
          have hl5 := below_to hl4 hn hl4.size
          have HY5 := Lib.hid (BoxAt.new w4 ⟨dst, src, (-1), ty, zs⟩ (.slice (some ⟨b4, 0, none⟩) zs.length zs.length))
          have HB5 := Lib.hid (below_to HB3.out hl5 HB3.out.size)
          have HO5 := Lib.hid ((hl5.block _ (Array.getElem?_eq_some_iff.1 HO3.out).1).trans HO3.out)
          have HZ5 := Lib.hid (show b3 < w4.heap.size from Nat.lt_of_lt_of_le (Array.getElem?_eq_some_iff.1 HO3.out).1 hl4.size)
          clear HP HX3 HB3 HO3 hl4 hn hl5 c12 c13
          go_upto_region 14 with fail
          generalize hY : w4.alloc (Frm.obj ⟨dst, src, (-1), ty, zs⟩ (.slice (some ⟨b4, 0, none⟩) zs.length zs.length)) = Y at HY5 HB5 HO5
          unfold Frm.obj at hY
          simp only at hY
          rw [hY]
          clear hY
          generalize w4.heap.size = gx at *
          have b6 : Below Y.heap.size Y (Y.alloc (bytesObj [0])) := below_al (Below.refl _ _) _
          have o6 : (Y.alloc (bytesObj [0])).heap[b3]? = some (bytesObj fs) := (b6.block _ (Array.getElem?_eq_some_iff.1 HO5.out).1).trans HO5.out
          obtain ⟨g7, c7, w7, run7, row7, grow7, at7⟩ := append_row (row_of_obj o6) (by rw [HFL.out]; simp [maxLen]) [0] (.slice (some ⟨Y.heap.size, 0, none⟩) 1 1) (Rd.of_obj (bytesObj_new Y [0]) (Nat.le_refl _)) (by rw [HFL.out]; simp)
          rw [HFL.out] at run7
          have E7 : Hid ((Builtin.append_ #[22, 22] 22 #[.slice (some ⟨b3, 0, none⟩) 9000 9000, .slice (some ⟨Y.heap.size, 0, none⟩) 1 1]).run Tryd.prog (Y.alloc (.cells #[.int .u8 0] 5)) = .ok (.slice (some ⟨g7, 0, none⟩) (fs ++ [0]).length c7) w7) := run7
          have hB7 : Below w.heap.size w w7 := Below.grown (HB5.out.alloc HB5.out.size (bytesObj [0])) grow7 (by have := HB5.out.size; simp; omega) (fun k hk => by cases hk; exact HN3.out)
          have hY7 : BoxAt w7 gx ⟨dst, src, (-1), ty, zs⟩ (.slice (some ⟨b4, 0, none⟩) zs.length zs.length) :=
            (grow7.block gx (HY5.out.below b6).lt (fun e => by have := HZ5.out; have := Option.some.inj e; omega)).trans (HY5.out.below b6)
          have HB7 := Lib.hid hB7
          have HY7 := Lib.hid hY7
          have hl9 : 9000 < (fs ++ [0]).length := by rw [List.length_append, HFL.out]; simp
          have HP := Lib.hid (Parse_big _ (fs ++ [0]) w7 row7.rd hl9)
          generalize (fs ++ [0]).length = L9 at *
          clear b6 o6 run7 row7 grow7 at7 hB7 hY7 HY5 HB5 HO5 HFL HN3 HZ5 hl9
          go_wp2_with (at_builtin; refine wpList_append_eq rfl (.tmp 75) (.tmp 76) 22 rfl _ _ rfl rfl _ _ E7.out ?_)
          with_reducible refine HP.out.mono ?_
          rintro e w8 ⟨b8, he, hc8, hl8⟩
          have he' : e = .returned (.tuple #[.agg #[.int .u8 0, .int .u8 0, .int .u8 0, .int .u8 0, .int .u8 0, .int .u8 0, .int .u8 0, .int .u8 0, .int .u8 0, .int .u8 0, .int .u8 0, .int .u8 0, .int .i64 0, .int .u16 0, .slice none 0 0], .iface 67 (.pointer (some ⟨b8, 0, none⟩))]) := he
          subst he'
          have hn : Below w8.heap.size w8 (w8.alloc noObj) := below_al (Below.refl _ _) _
          have hl9 := below_to hl8 hn hl8.size
          have HC9 := Lib.hid (hc8.below hn)
          have HY8 := Lib.hid (HY7.out.below hl8)
          have HB9 := Lib.hid (below_to HB7.out hl9 HB7.out.size)
          clear HP HY7 HB7 hc8 hl8 hn hl9 he
          have hlt8 := HY8.out.lt
          have hze : (zs.length : Int) = 8986 := by have := HSZ.out; omega
          have d14 := HY8.out.cells.2.2.2.2.2.2.2.2.2.2.2.2.2.2
          go_wp2_with fail
          refine (code_any 7 _ _ _ (HG.out.below HB9.out) HC9.out).mono ?_
          rintro e w10 ⟨rfl, hl10⟩
          have HB10 := Lib.hid (below_to HB9.out hl10 HB9.out.size)
          clear hl10
          go_wp2_with fail
          go_ret
          exact ⟨rfl, HB10.out⟩
  · have hvd : ¬ v = -1 := by omega
    obtain ⟨zs, hzs⟩ : ∃ zs : List UInt8, zs = List.replicate (8982 + k) 0 := ⟨_, rfl⟩
    have hzl : zs.length = 8982 + k := by rw [hzs, List.length_replicate]
    have hmk : ∀ W, (Instr.makeSlice 22 (.int .i64 (8982 + (k : Int))) (.int .i64 (8982 + (k : Int)))).run Tryd.prog W = .ok (.slice (some ⟨W.heap.size, 0, none⟩) zs.length zs.length) (W.alloc (bytesObj zs)) := by
      intro W
      have h := make_bytes (8982 + k) (by omega) W
      rw [hzl, hzs]
      simpa using h
    have HZL := Lib.hid hzl
    clear hzs hzl
    go_wp2_with fail
    clear c0 c1 c2 c3 c4 c5 c6 c7 c8 c9 c10 c11 c12 c13 c14 z12 z14 hmin hmax hmk hand
    have x2 : BoxAt (((w1.setCell ⟨w.heap.size, 12, none⟩ (.int .i64 v)).alloc (bytesObj zs)).setCell ⟨w.heap.size, 14, none⟩ (.slice (some ⟨w1.heap.size, 0, none⟩) zs.length zs.length)) w.heap.size ⟨dst, src, v, ty, zs⟩ (.slice (some ⟨w1.heap.size, 0, none⟩) zs.length zs.length) :=
      ((((HX1.out.set12 v).below (below_al (Below.refl _ _) (bytesObj zs))).set14 _)).bytes zs
    have r1 : Rd ((w1.setCell ⟨w.heap.size, 12, none⟩ (.int .i64 v)).alloc (bytesObj zs)) (.slice (some ⟨w1.heap.size, 0, none⟩) zs.length zs.length) zs := by
      have h := bytesObj_new (w1.setCell ⟨w.heap.size, 12, none⟩ (.int .i64 v)) zs
      rw [World.size_setCell] at h
      exact Rd.of_obj h (Nat.le_refl _)
    have r2 := r1.over14 ((HX1.out.set12 v).below (below_al (Below.refl _ _) (bytesObj zs))) (.slice (some ⟨w1.heap.size, 0, none⟩) zs.length zs.length)
    have b2 : Below w.heap.size w (((w1.setCell ⟨w.heap.size, 12, none⟩ (.int .i64 v)).alloc (bytesObj zs)).setCell ⟨w.heap.size, 14, none⟩ (.slice (some ⟨w1.heap.size, 0, none⟩) zs.length zs.length)) :=
      ((HB1.out.setCell (Nat.le_refl _) _).alloc (by rw [World.size_setCell]; omega) _).setCell (Nat.le_refl _) _
    clear r1
    rw [setCell_alloc_old _ _ _ _ (by rw [World.size_setCell]; exact hlt)] at x2 r2 b2
    generalize ((w1.setCell ⟨w.heap.size, 12, none⟩ (.int .i64 v)).setCell ⟨w.heap.size, 14, none⟩ (.slice (some ⟨w1.heap.size, 0, none⟩) zs.length zs.length)).alloc (bytesObj zs) = X at *
    generalize w1.heap.size = gz at *
    have HX2 := Lib.hid x2
    have HR2 := Lib.hid r2
    have HB2 := Lib.hid b2
    clear x2 r2 b2 HX1 HB1 hlt
    have hzl := HZL.out
    have hok : Frm.Ok ⟨dst, src, v, ty, zs⟩ := ⟨hty0, .inr ⟨hv0, hv9⟩⟩
    have hhd : Frm.head ⟨dst, src, v, ty, zs⟩ = 18 := by unfold Frm.head; exact if_neg hvd
    by_cases hk0 : 0 < k
    · as_aux_lemma =>
        have FB := Lib.hid (fBytes_big ⟨dst, src, v, ty, zs⟩ hok (some ⟨gz, 0, none⟩) zs.length zs.length (by rw [hhd]; omega) (by omega) X)
        clear hzl
        refine FB.out.mono ?_
        rintro e w2 ⟨b2, rfl, hc2, hl2⟩
        have HX3 := Lib.hid (HX2.out.below hl2)
        have HC3 := Lib.hid hc2
        have HB3 := Lib.hid (below_to HB2.out hl2 HB2.out.size)
        clear FB HX2 HR2 HB2 hc2 hl2 hok hhd
        obtain ⟨c0, c1, c2, c3, c4, c5, c6, c7, c8, c9, c10, c11, c12, c13, c14⟩ := HX3.out.cells
        clear c0 c1 c2 c3 c4 c5 c6 c7 c8 c9 c10 c11 c14
        simp only at c12 c13
        go_wp2_with fail
        refine (code_any 7 _ _ _ (HG.out.below HB3.out) HC3.out).mono ?_
        rintro e w6 ⟨rfl, hl6⟩
        have HB6 := Lib.hid (below_to HB3.out hl6 HB3.out.size)
        clear hl6
        go_wp2_with fail
        go_ret
        exact ⟨rfl, HB6.out⟩
    · as_aux_lemma =>
        obtain rfl : k = 0 := by omega
        have hfl := Frm.bs_len ⟨dst, src, v, ty, zs⟩
        rw [hhd] at hfl
        simp only at hfl
        have hfl2 : (Frm.bs ⟨dst, src, v, ty, zs⟩).length = 9000 := by omega
        have hsz : zs.length = 8982 := by omega
        obtain ⟨fs, hfs⟩ : ∃ fs, fs = Frm.bs ⟨dst, src, v, ty, zs⟩ := ⟨_, rfl⟩
        have fb := fBytes_ok ⟨dst, src, v, ty, zs⟩ hok (some ⟨gz, 0, none⟩) zs.length X HR2.out (by omega)
        have HSZ := Lib.hid hsz
        clear hzl hsz
        rw [hfl2, ← hfs] at fb
        rw [← hfs] at hfl2
        have FB := Lib.hid fb
        have HFS := Lib.hid hfs
        have HFL := Lib.hid hfl2
        have HOK := Lib.hid hok
        clear fb hfs hfl hfl2 hok hhd
        refine FB.out.mono ?_
        rintro e w3 ⟨b3, rfl, hb3, ho3, hl3⟩
        have hq3 : Rd w3 (.slice (some ⟨b3, 0, none⟩) 9000 9000) fs := by
          have h := Rd.of_obj ho3 (Nat.le_refl _)
          rwa [HFL.out] at h
        have hq3' : ∀ l, fs = l → Rd w3 (.slice (some ⟨b3, 0, none⟩) 9000 9000) l := by rintro l rfl; exact hq3
        have HP := Lib.hid (Parse_ok _ ⟨dst, src, v, ty, zs⟩ HOK.out w3 (hq3' _ HFS.out) (by rw [← HFS.out, HFL.out]; exact Nat.le_refl _))
        have HX3 := Lib.hid (HX2.out.below hl3)
        have HB3 := Lib.hid (below_to HB2.out hl3 HB2.out.size)
        have HO3 := Lib.hid ho3
        have HN3 := Lib.hid (show w.heap.size ≤ b3 from Nat.le_trans HB2.out.size hb3)
        clear FB HX2 HR2 HB2 hb3 ho3 hl3 hq3 hq3' HOK HFS
        obtain ⟨c0, c1, c2, c3, c4, c5, c6, c7, c8, c9, c10, c11, c12, c13, c14⟩ := HX3.out.cells
        clear c0 c1 c2 c3 c4 c5 c6 c7 c8 c9 c10 c11 c14
        simp only at c12 c13
        go_wp2_with fail
        with_reducible refine HP.out.mono ?_
        rintro e w4 ⟨b4, he, _, _, hl4⟩
        rw [Frm.val_lit] at he
        simp only at he
        subst he
        have hn : Below w4.heap.size w4 (w4.alloc (Frm.obj ⟨dst, src, v, ty, zs⟩ (.slice (some ⟨b4, 0, none⟩) zs.length zs.length))) := below_al (Below.refl _ _) _
        have hl5 := below_to hl4 hn hl4.size
        have HY5 := Lib.hid (BoxAt.new w4 ⟨dst, src, v, ty, zs⟩ (.slice (some ⟨b4, 0, none⟩) zs.length zs.length))
        have HB5 := Lib.hid (below_to HB3.out hl5 HB3.out.size)
        have HO5 := Lib.hid ((hl5.block _ (Array.getElem?_eq_some_iff.1 HO3.out).1).trans HO3.out)
        have HZ5 := Lib.hid (show b3 < w4.heap.size from Nat.lt_of_lt_of_le (Array.getElem?_eq_some_iff.1 HO3.out).1 hl4.size)
        clear HP HX3 HB3 HO3 hl4 hn hl5 c12 c13
        go_upto_region 14 with fail
        generalize hY : w4.alloc (Frm.obj ⟨dst, src, v, ty, zs⟩ (.slice (some ⟨b4, 0, none⟩) zs.length zs.length)) = Y at HY5 HB5 HO5
        unfold Frm.obj at hY
        simp only at hY
        rw [hY]
        clear hY
        generalize w4.heap.size = gx at *
        have b6 : Below Y.heap.size Y (Y.alloc (bytesObj [0])) := below_al (Below.refl _ _) _
        have o6 : (Y.alloc (bytesObj [0])).heap[b3]? = some (bytesObj fs) := (b6.block _ (Array.getElem?_eq_some_iff.1 HO5.out).1).trans HO5.out
        obtain ⟨g7, c7, w7, run7, row7, grow7, at7⟩ := append_row (row_of_obj o6) (by rw [HFL.out]; simp [maxLen]) [0] (.slice (some ⟨Y.heap.size, 0, none⟩) 1 1) (Rd.of_obj (bytesObj_new Y [0]) (Nat.le_refl _)) (by rw [HFL.out]; simp)
        rw [HFL.out] at run7
        have E7 : Hid ((Builtin.append_ #[22, 22] 22 #[.slice (some ⟨b3, 0, none⟩) 9000 9000, .slice (some ⟨Y.heap.size, 0, none⟩) 1 1]).run Tryd.prog (Y.alloc (.cells #[.int .u8 0] 5)) = .ok (.slice (some ⟨g7, 0, none⟩) (fs ++ [0]).length c7) w7) := run7
        have hB7 : Below w.heap.size w w7 := Below.grown (HB5.out.alloc HB5.out.size (bytesObj [0])) grow7 (by have := HB5.out.size; simp; omega) (fun k hk => by cases hk; exact HN3.out)
        have hY7 : BoxAt w7 gx ⟨dst, src, v, ty, zs⟩ (.slice (some ⟨b4, 0, none⟩) zs.length zs.length) :=
          (grow7.block gx (HY5.out.below b6).lt (fun e => by have := HZ5.out; have := Option.some.inj e; omega)).trans (HY5.out.below b6)
        have HB7 := Lib.hid hB7
        have HY7 := Lib.hid hY7
        have hl9 : 9000 < (fs ++ [0]).length := by rw [List.length_append, HFL.out]; simp
        have HP := Lib.hid (Parse_big _ (fs ++ [0]) w7 row7.rd hl9)
        generalize (fs ++ [0]).length = L9 at *
        clear b6 o6 run7 row7 grow7 at7 hB7 hY7 HY5 HB5 HO5 HFL HN3 HZ5 hl9
        go_wp2_with (at_builtin; refine wpList_append_eq rfl (.tmp 75) (.tmp 76) 22 rfl _ _ rfl rfl _ _ E7.out ?_)
        with_reducible refine HP.out.mono ?_
        rintro e w8 ⟨b8, he, hc8, hl8⟩
        have he' : e = .returned (.tuple #[.agg #[.int .u8 0, .int .u8 0, .int .u8 0, .int .u8 0, .int .u8 0, .int .u8 0, .int .u8 0, .int .u8 0, .int .u8 0, .int .u8 0, .int .u8 0, .int .u8 0, .int .i64 0, .int .u16 0, .slice none 0 0], .iface 67 (.pointer (some ⟨b8, 0, none⟩))]) := he
        subst he'
        have hn : Below w8.heap.size w8 (w8.alloc noObj) := below_al (Below.refl _ _) _
        have hl9 := below_to hl8 hn hl8.size
        have HC9 := Lib.hid (hc8.below hn)
        have HY8 := Lib.hid (HY7.out.below hl8)
        have HB9 := Lib.hid (below_to HB7.out hl9 HB7.out.size)
        clear HP HY7 HB7 hc8 hl8 hn hl9 he
        have hlt8 := HY8.out.lt
        have hze : (zs.length : Int) = 8982 := by have := HSZ.out; omega
        have d14 := HY8.out.cells.2.2.2.2.2.2.2.2.2.2.2.2.2.2
        go_wp2_with fail
        refine (code_any 7 _ _ _ (HG.out.below HB9.out) HC9.out).mono ?_
        rintro e w10 ⟨rfl, hl10⟩
        have HB10 := Lib.hid (below_to HB9.out hl10 HB9.out.size)
        clear hl10
        go_wp2_with fail
        go_ret
        exact ⟨rfl, HB10.out⟩
end Go.Proofs.YtkpncnbgdammaaaDoor
