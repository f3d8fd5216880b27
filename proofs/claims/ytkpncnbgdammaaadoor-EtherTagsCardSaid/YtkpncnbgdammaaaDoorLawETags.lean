/-
  What is proved: the law EtherTags answers true for any frame and tag, and leaves all older memory as it was.
  Conditions: errors.errorType holds the handle of the type error; api.All holds six times 255; the slices are of fewer than 2^63 bytes.
-/
import Derived.Test.YtkpncnbgdammaaaDoorEBox
import Derived.BigQuiet
import Derived.Deep.QuietTactic
namespace Go.Proofs.YtkpncnbgdammaaaDoor
open Go.RowKit

theorem Frm.val_lit (f : Frm) (bv : Value) : f.val bv = .agg #[.int .u8 f.dst.a.toNat, .int .u8 f.dst.b.toNat, .int .u8 f.dst.c.toNat, .int .u8 f.dst.d.toNat, .int .u8 f.dst.e.toNat, .int .u8 f.dst.f.toNat,
    .int .u8 f.src.a.toNat, .int .u8 f.src.b.toNat, .int .u8 f.src.c.toNat, .int .u8 f.src.d.toNat, .int .u8 f.src.e.toNat, .int .u8 f.src.f.toNat, .int .i64 f.vlan, .int .u16 f.ty, bv] := rfl

set_option maxRecDepth 100000 in
set_option maxHeartbeats 4000000 in
theorem tags_any (f0 : Frm) (A : Option Addr) (c : Nat) (tag : Nat) (w : World) (hg : Hdl w) (ha : AllAt w) (hin : f0.In) (hr : Rd w (.slice A f0.b.length c) f0.b) (hc : c ≤ 9223372036854775807) (ht : tag < 65536) :
    Calls Tryd.prog 7 #[f0.val (.slice A f0.b.length c), .int .u16 tag] w fun e w' => e = .returned (.bool true) ∧ Below w.heap.size w w' := by
  obtain ⟨dst, src, vlan, ty, b⟩ := f0
  have hty0 : ty < 65536 := hin.ty
  simp only at hr ⊢
  have hlc := hr.cap_le
  obtain ⟨bs, hbs⟩ : ∃ bs, bs = b.take 2000 := ⟨_, rfl⟩
  have hbl : bs.length = min b.length 2000 := by rw [hbs, List.length_take]; omega
  have hr1 : Rd w (.slice A bs.length c) bs := by
    have h := hr.front (K := bs.length) (by omega)
    have e : b.take bs.length = bs := by
      rw [hbl, hbs]
      by_cases h2 : b.length ≤ 2000
      · rw [Nat.min_eq_left h2, List.take_of_length_le (Nat.le_refl _), List.take_of_length_le h2]
      · rw [Nat.min_eq_right (by omega)]
    rwa [e] at h
  have hb0 : Below w.heap.size w (w.alloc (Frm.obj ⟨dst, src, vlan, ty, b⟩ (.slice A b.length c))) := below_al (Below.refl _ _) _
  have HS := Lib.hid (shown_any _ (hg.below hb0) (ha.below hb0))
  have HX0 := Lib.hid (BoxAt.new w ⟨dst, src, vlan, ty, b⟩ (.slice A b.length c))
  have HB0 := Lib.hid hb0
  have HG := Lib.hid hg
  have HR := Lib.hid hr1
  have hmin := fun W => min_run (P := Tryd.prog) #[3, 3] 3 (b.length : Int) 2000 (bs.length : Int) (by omega) W
  have hK1 : bs.length ≤ b.length := by omega
  have hK2 : bs.length ≤ 2000 := by omega
  clear hg ha hb0 hr hr1 hbs hbl hin
  rw [Frm.val_lit]
  unfold Frm.obj at HS
  simp only at HS ⊢
  go_enter Tryd.func7, Tryd.ntmps7
  go_wp2_with fail
  refine HS.out.mono ?_
  rintro e w1 ⟨rfl, hb1⟩
  have HX1 := Lib.hid (HX0.out.below hb1)
  have HB1 := Lib.hid (below_to HB0.out hb1 HB0.out.size)
  clear HS hb1 HX0 HB0
  obtain ⟨c0, c1, c2, c3, c4, c5, c6, c7, c8, c9, c10, c11, c12, c13, c14⟩ := HX1.out.cells
  simp only at c0 c1 c2 c3 c4 c5 c6 c7 c8 c9 c10 c11 c12 c13 c14
  have z12 := HX1.out.free 12
  have z14 := HX1.out.free 14
  go_wp2_with fail
  clear c0 c1 c2 c3 c4 c5 c6 c7 c8 c9 c10 c11 c12 c13 c14 z12 z14 hmin
  have x2 : BoxAt ((w1.setCell ⟨w.heap.size, 14, none⟩ (.slice A bs.length c)).setCell ⟨w.heap.size, 12, none⟩ (.int .i64 (-1))) w.heap.size ⟨dst, src, -1, ty, bs⟩ (.slice A bs.length c) := ((HX1.out.set14 (.slice A bs.length c)).set12 (-1)).bytes bs
  have r2 : Rd ((w1.setCell ⟨w.heap.size, 14, none⟩ (.slice A bs.length c)).setCell ⟨w.heap.size, 12, none⟩ (.int .i64 (-1))) (.slice A bs.length c) bs := ((HR.out.below HB1.out).over14 HX1.out _).over12 (HX1.out.set14 _) _
  have b2 : Below w.heap.size w ((w1.setCell ⟨w.heap.size, 14, none⟩ (.slice A bs.length c)).setCell ⟨w.heap.size, 12, none⟩ (.int .i64 (-1))) := (HB1.out.setCell (Nat.le_refl _) _).setCell (Nat.le_refl _) _
  generalize (w1.setCell ⟨w.heap.size, 14, none⟩ (.slice A bs.length c)).setCell ⟨w.heap.size, 12, none⟩ (.int .i64 (-1)) = X at *
  have HX2 := Lib.hid x2
  have HR2 := Lib.hid r2
  have HB2 := Lib.hid b2
  clear x2 r2 b2 HX1 HB1 HR hK1
  by_cases hty : ty = 33024
  · as_aux_lemma =>
      subst hty
      have FB := Lib.hid (fBytes_arg ⟨dst, src, -1, 33024, bs⟩ ⟨by simp, .inl ⟨rfl, rfl⟩⟩ A bs.length c X)
      refine FB.out.mono ?_
      rintro e w2 ⟨b2, rfl, hc2, hl2⟩
      have HX3 := Lib.hid (HX2.out.below hl2)
      have HC3 := Lib.hid hc2
      have HR3 := Lib.hid (HR2.out.below hl2)
      have HB3 := Lib.hid (below_to HB2.out hl2 HB2.out.size)
      clear FB HX2 HR2 HB2 hc2 hl2
      obtain ⟨c0, c1, c2, c3, c4, c5, c6, c7, c8, c9, c10, c11, c12, c13, c14⟩ := HX3.out.cells
      simp only at c0 c1 c2 c3 c4 c5 c6 c7 c8 c9 c10 c11 c12 c13 c14
      have z12 := HX3.out.free 12
      go_wp2_with fail
      clear c0 c1 c2 c3 c4 c5 c6 c7 c8 c9 c10 c11 c12 c13 c14 z12
      have x4 := HX3.out.set12 (tag : Int)
      have r4 := HR3.out.over12 HX3.out (.int .i64 (tag : Int))
      have k4 := HC3.out.boxed HX3.out ⟨(fun s e => by cases e), fun T u e => by cases e⟩ 12 (.int .i64 (tag : Int))
      have b4 := HB3.out.setCell (p := ⟨w.heap.size, 12, none⟩) (Nat.le_refl _) (.int .i64 (tag : Int))
      generalize w2.setCell ⟨w.heap.size, 12, none⟩ (.int .i64 (tag : Int)) = Y at *
      have hfl := Frm.bs_len ⟨dst, src, tag, 33024, bs⟩
      have hhd : Frm.head ⟨dst, src, tag, 33024, bs⟩ = 18 := by unfold Frm.head; rw [if_neg (by simp only; omega)]
      rw [hhd] at hfl
      have fb := fBytes_ok ⟨dst, src, tag, 33024, bs⟩ ⟨by simp, .inr ⟨by simp, by simp only; omega⟩⟩ A c Y r4 (by rw [hfl]; simp only; omega)
      rw [hfl] at fb
      have FB := Lib.hid fb
      have HX4 := Lib.hid x4
      have HC4 := Lib.hid k4
      have HB4 := Lib.hid b4
      clear fb x4 r4 k4 b4 HX3 HC3 HR3 HB3 hfl hhd
      refine FB.out.mono ?_
      rintro e w5 ⟨b5, rfl, _, _, hl5⟩
      have HX5 := Lib.hid (HX4.out.below hl5)
      have HC5 := Lib.hid (HC4.out.below hl5)
      have HB5 := Lib.hid (below_to HB4.out hl5 HB4.out.size)
      clear FB HX4 HC4 HB4 hl5
      obtain ⟨c0, c1, c2, c3, c4, c5, c6, c7, c8, c9, c10, c11, c12, c13, c14⟩ := HX5.out.cells
      clear c0 c1 c2 c3 c4 c5 c6 c7 c8 c9 c10 c11 c12
      simp only at c13 c14
      go_wp2_with fail
      refine (code_any 1 _ _ _ (HG.out.below HB5.out) HC5.out).mono ?_
      rintro e w6 ⟨rfl, hl6⟩
      have HB6 := Lib.hid (below_to HB5.out hl6 HB5.out.size)
      clear hl6
      go_wp2_with fail
      go_ret
      exact ⟨rfl, HB6.out⟩
  · as_aux_lemma =>
      have hfl := Frm.bs_len ⟨dst, src, -1, ty, bs⟩
      rw [show Frm.head ⟨dst, src, -1, ty, bs⟩ = 14 from rfl] at hfl
      have fb := fBytes_ok ⟨dst, src, -1, ty, bs⟩ ⟨hty0, .inl ⟨rfl, hty⟩⟩ A c X HR2.out (by rw [hfl]; simp only; omega)
      rw [hfl] at fb
      have FB := Lib.hid fb
      have HFL := Lib.hid hfl
      clear fb hfl
      refine FB.out.mono ?_
      rintro e w2 ⟨b2, rfl, _, ho2, hl2⟩
      have q3 : Rd w2 (.slice (some ⟨b2, 0, none⟩) (14 + bs.length) (14 + bs.length)) (Frm.bs ⟨dst, src, -1, ty, bs⟩) := by
        have h := Rd.of_obj ho2 (Nat.le_refl _)
        rwa [HFL.out] at h
      have HQ3 := Lib.hid q3
      have HX3 := Lib.hid (HX2.out.below hl2)
      have HR3 := Lib.hid (HR2.out.below hl2)
      have HB3 := Lib.hid (below_to HB2.out hl2 HB2.out.size)
      clear FB HX2 HR2 HB2 ho2 hl2 q3 HFL
      obtain ⟨c0, c1, c2, c3, c4, c5, c6, c7, c8, c9, c10, c11, c12, c13, c14⟩ := HX3.out.cells
      simp only at c0 c1 c2 c3 c4 c5 c6 c7 c8 c9 c10 c11 c12 c13 c14
      have z12 := HX3.out.free 12
      go_wp2_with fail
      clear c0 c1 c2 c3 c4 c5 c6 c7 c8 c9 c10 c11 c12 c13 c14 z12
      have x4 := HX3.out.set12 (tag : Int)
      have r4 := HR3.out.over12 HX3.out (.int .i64 (tag : Int))
      have q4 := HQ3.out.over12 HX3.out (.int .i64 (tag : Int))
      have b4 := HB3.out.setCell (p := ⟨w.heap.size, 12, none⟩) (Nat.le_refl _) (.int .i64 (tag : Int))
      generalize w2.setCell ⟨w.heap.size, 12, none⟩ (.int .i64 (tag : Int)) = Y at *
      have hfl := Frm.bs_len ⟨dst, src, tag, ty, bs⟩
      have hhd : Frm.head ⟨dst, src, tag, ty, bs⟩ = 18 := by unfold Frm.head; rw [if_neg (by simp only; omega)]
      rw [hhd] at hfl
      have hok : Frm.Ok ⟨dst, src, tag, ty, bs⟩ := ⟨hty0, .inr ⟨by simp, by simp only; omega⟩⟩
      have fb := fBytes_ok ⟨dst, src, tag, ty, bs⟩ hok A c Y r4 (by rw [hfl]; simp only; omega)
      rw [hfl] at fb
      have FB := Lib.hid fb
      have HX4 := Lib.hid x4
      have HQ4 := Lib.hid q4
      have HB4 := Lib.hid b4
      have HOK := Lib.hid hok
      have HFL := Lib.hid hfl
      clear fb x4 r4 q4 b4 HX3 HQ3 HR3 HB3 hfl hhd hok
      refine FB.out.mono ?_
      rintro e w5 ⟨b5, rfl, _, ho5, hl5⟩
      have q5 : Rd w5 (.slice (some ⟨b5, 0, none⟩) (18 + bs.length) (18 + bs.length)) (Frm.bs ⟨dst, src, tag, ty, bs⟩) := by
        have h := Rd.of_obj ho5 (Nat.le_refl _)
        rwa [HFL.out] at h
      have HP := Lib.hid (Parse_ok _ ⟨dst, src, tag, ty, bs⟩ HOK.out w5 q5 (by rw [HFL.out]; simp only; omega))
      have HX5 := Lib.hid (HX4.out.below hl5)
      have HQ5 := Lib.hid (HQ4.out.below hl5)
      have HS5 := Lib.hid q5
      have HB5 := Lib.hid (below_to HB4.out hl5 HB4.out.size)
      clear FB HX4 HQ4 HB4 hl5 ho5 q5 HFL HOK
      obtain ⟨c0, c1, c2, c3, c4, c5, c6, c7, c8, c9, c10, c11, c12, c13, c14⟩ := HX5.out.cells
      clear c0 c1 c2 c3 c4 c5 c6 c7 c8 c9 c10 c11 c12
      simp only at c13 c14
      go_wp2_with fail
      refine HP.out.mono ?_
      clear c13 c14
      rintro e w6 ⟨b6, he, _, _, hl6⟩
      rw [Frm.val_lit] at he
      simp only at he
      subst he
      have hn : Below w6.heap.size w6 (w6.alloc (Frm.obj ⟨dst, src, tag, ty, bs⟩ (.slice (some ⟨b6, 0, none⟩) bs.length bs.length))) := below_al (Below.refl _ _) _
      have hl7 := below_to hl6 hn hl6.size
      have HX7 := Lib.hid (HX5.out.below hl7)
      have HY7 := Lib.hid (BoxAt.new w6 ⟨dst, src, tag, ty, bs⟩ (.slice (some ⟨b6, 0, none⟩) bs.length bs.length))
      have HQ7 := Lib.hid (HQ5.out.below hl7)
      have HS7 := Lib.hid (HS5.out.below hl7)
      have HB7 := Lib.hid (below_to HB5.out hl7 HB5.out.size)
      clear HP HX5 HQ5 HS5 HB5 hl6 hn hl7
      go_wp2_with fail
      generalize hW : w6.alloc (Frm.obj ⟨dst, src, tag, ty, bs⟩ (.slice (some ⟨b6, 0, none⟩) bs.length bs.length)) = W at HX7 HY7 HQ7 HS7 HB7
      unfold Frm.obj at hW
      simp only at hW
      rw [hW]
      clear hW
      generalize w6.heap.size = gx at *
      have HL1 : Hid ((Frm.bs ⟨dst, src, -1, ty, bs⟩).length = 14 + bs.length) := Frm.bs_len ⟨dst, src, -1, ty, bs⟩
      have HL2 : Hid ((Frm.bs ⟨dst, src, tag, ty, bs⟩).length = 18 + bs.length) := by
        show _ = _
        rw [Frm.bs_len, Frm.head, if_neg (by simp only; omega)]
      have v1 : ∀ k, (convert 22 9 (.slice (some ⟨b2, 0, none⟩) 12 (14 + bs.length))).run Tryd.prog (W.drewN k) = .ok (.string (txt (dst.bs ++ src.bs))) (W.drewN k) := fun k => convert_rd ((HQ7.out.frontAt (K := 12) (by rw [HL1.out]; omega)).drewN k)
      have v2 : ∀ k, (convert 22 9 (.slice (some ⟨b5, 0, none⟩) 12 (18 + bs.length))).run Tryd.prog (W.drewN k) = .ok (.string (txt (dst.bs ++ src.bs))) (W.drewN k) := fun k => convert_rd ((HS7.out.frontAt (K := 12) (by rw [HL2.out]; omega)).drewN k)
      have v3 : ∀ k, (convert 22 9 (.slice (some ⟨b2, 12, none⟩) (14 + bs.length - 12) (14 + bs.length - 12))).run Tryd.prog (W.drewN k) = .ok (.string (txt (be2 ty ++ bs))) (W.drewN k) := fun k => convert_rd (by
        have h := (HQ7.out.backAt (K := 12) (by rw [HL1.out]; omega)).drewN k
        rwa [bs_plain, Nat.zero_add] at h)
      have v4 : ∀ k, (convert 22 9 (.slice (some ⟨b5, 16, none⟩) (18 + bs.length - 16) (18 + bs.length - 16))).run Tryd.prog (W.drewN k) = .ok (.string (txt (be2 ty ++ bs))) (W.drewN k) := fun k => convert_rd (by
        have h := (HS7.out.backAt (K := 16) (by rw [HL2.out]; omega)).drewN k
        rwa [bs_tagged, Nat.zero_add] at h)
      obtain ⟨c0, c1, c2, c3, c4, c5, c6, c7, c8, c9, c10, c11, c12, c13, c14⟩ := HX7.out.cells
      clear c0 c1 c2 c3 c4 c5 c6 c7 c8 c9 c10 c11 c12 c14
      obtain ⟨d0, d1, d2, d3, d4, d5, d6, d7, d8, d9, d10, d11, d12, d13, d14⟩ := HY7.out.cells
      clear d0 d1 d2 d3 d4 d5 d6 d7 d8 d9 d10 d11 d14
      simp only at c13 d12 d13
      have s1 : IntKind.i64.wrap (14 + (bs.length : Int) + 4) = 18 + (bs.length : Int) := by rw [i64_fits _ (by omega) (by omega)]; omega
      have s2 : IntKind.i64.wrap (tag : Int) = (tag : Int) := i64_fits _ (by omega) (by omega)
      go_quiet (fail)
      go_wp2_with fail
      go_ret
      exact ⟨rfl, below_drewN HB7.out nq⟩
end Go.Proofs.YtkpncnbgdammaaaDoor
