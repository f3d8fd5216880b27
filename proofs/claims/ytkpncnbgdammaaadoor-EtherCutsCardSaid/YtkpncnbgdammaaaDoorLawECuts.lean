/-
  What is proved: the law EtherCuts answers true for any frame and place, and leaves all older memory as it was.
  Conditions: errors.errorType holds the handle of the type error; api.All holds six times 255; the slices are of fewer than 2^63 bytes.
-/
import Derived.Test.YtkpncnbgdammaaaDoorECut
import Derived.BigQuiet
import Derived.Deep.QuietTactic
import Derived.Test.YtkpncnbgdammaaaDoorSum
namespace Go.Proofs.YtkpncnbgdammaaaDoor
open Go.RowKit

set_option maxRecDepth 100000 in
set_option maxHeartbeats 4000000 in
theorem cuts_any (f0 : Frm) (A : Option Addr) (c : Nat) (at0 : Int) (w : World) (hg : Hdl w) (ha : AllAt w) (hin : f0.In) (hr : Rd w (.slice A f0.b.length c) f0.b) (hc : c ≤ 9223372036854775807) (_h1 : -9223372036854775808 ≤ at0) (_h2 : at0 ≤ 9223372036854775807) :
    Calls Tryd.prog 6 #[f0.val (.slice A f0.b.length c), .int .i64 at0] w fun e w' => e = .returned (.bool true) ∧ Below w.heap.size w w' := by
  obtain ⟨dst, src, vlan, ty, b⟩ := f0
  have hty0 : ty < 65536 := hin.ty
  simp only at hr ⊢
  have hlc := hr.cap_le
  obtain ⟨bs, hbs, hbl, hr1⟩ := front_of b 2000 hr
  have hb0 : Below w.heap.size w (w.alloc (Frm.obj ⟨dst, src, vlan, ty, b⟩ (.slice A b.length c))) := below_al (Below.refl _ _) _
  have HS := Lib.hid (shown_any _ (hg.below hb0) (ha.below hb0))
  have HX0 := Lib.hid (BoxAt.new w ⟨dst, src, vlan, ty, b⟩ (.slice A b.length c))
  have HB0 := Lib.hid hb0
  have HG := Lib.hid hg
  have HR := Lib.hid hr1
  have hmin := fun W => min_run (P := Tryd.prog) #[3, 3] 3 (b.length : Int) 2000 (bs.length : Int) (by omega) W
  have hK1 : bs.length ≤ b.length := by omega
  have hK2 : bs.length ≤ 2000 := by omega
  clear hg ha hb0 hr hr1 hbs hbl hin
  rw [Frm.val_lit]
  unfold Frm.obj at HS
  simp only at HS ⊢
  go_enter Tryd.func6, Tryd.ntmps6
  go_wp2_with fail
  refine HS.out.mono ?_
  rintro e w1 ⟨rfl, hb1⟩
  have HX1 := Lib.hid (HX0.out.below hb1)
  have HB1 := Lib.hid (below_to HB0.out hb1 HB0.out.size)
  clear HS hb1 HX0 HB0
  obtain ⟨c0, c1, c2, c3, c4, c5, c6, c7, c8, c9, c10, c11, c12, c13, c14⟩ := HX1.out.cells
  simp only at c0 c1 c2 c3 c4 c5 c6 c7 c8 c9 c10 c11 c12 c13 c14
  have z14 := HX1.out.free 14
  go_wp2_with fail
  clear c0 c1 c2 c3 c4 c5 c6 c7 c8 c9 c10 c11 c12 c13 c14 z14 hmin
  have x2 : BoxAt (w1.setCell ⟨w.heap.size, 14, none⟩ (.slice A bs.length c)) w.heap.size ⟨dst, src, vlan, ty, bs⟩ (.slice A bs.length c) := (HX1.out.set14 (.slice A bs.length c)).bytes bs
  have r2 : Rd (w1.setCell ⟨w.heap.size, 14, none⟩ (.slice A bs.length c)) (.slice A bs.length c) bs := (HR.out.below HB1.out).over14 HX1.out _
  have b2 : Below w.heap.size w (w1.setCell ⟨w.heap.size, 14, none⟩ (.slice A bs.length c)) := HB1.out.setCell (Nat.le_refl _) _
  generalize w1.setCell ⟨w.heap.size, 14, none⟩ (.slice A bs.length c) = X at *
  have HX2 := Lib.hid x2
  have HR2 := Lib.hid r2
  have HB2 := Lib.hid b2
  clear x2 r2 b2 HX1 HB1 HR hK1
  rcases Frm.ok_or_bad ⟨dst, src, vlan, ty, bs⟩ hty0 with hok | hbad
  · have HOK := Lib.hid hok
    obtain ⟨hd, hhd⟩ : ∃ hd, Frm.head ⟨dst, src, vlan, ty, bs⟩ = hd := ⟨_, rfl⟩
    have hd1 : 14 ≤ hd ∧ hd ≤ 18 := by rw [← hhd]; unfold Frm.head; split <;> omega
    obtain ⟨hd1, hd2⟩ := hd1
    have HHD := Lib.hid hhd
    have hfl := Frm.bs_len ⟨dst, src, vlan, ty, bs⟩
    rw [hhd] at hfl
    have fb := fBytes_ok ⟨dst, src, vlan, ty, bs⟩ hok A c X HR2.out (by rw [hfl]; simp only; omega)
    rw [hfl] at fb
    have FB := Lib.hid fb
    have HFL := Lib.hid hfl
    clear fb hfl hok hhd
    refine FB.out.mono ?_
    rintro e w2 ⟨b2, rfl, _, ho2, hl2⟩
    have q3 : Rd w2 (.slice (some ⟨b2, 0, none⟩) (hd + bs.length) (hd + bs.length)) (Frm.bs ⟨dst, src, vlan, ty, bs⟩) := by
      have h := Rd.of_obj ho2 (Nat.le_refl _)
      rwa [HFL.out] at h
    have HQ3 := Lib.hid q3
    have HX3 := Lib.hid (HX2.out.below hl2)
    have HR3 := Lib.hid (HR2.out.below hl2)
    have HB3 := Lib.hid (below_to HB2.out hl2 HB2.out.size)
    clear FB HX2 HR2 HB2 ho2 hl2 q3
    have ha := and_low_i64 at0
    obtain ⟨p, hp⟩ : ∃ p : Nat, at0 % 65536 = (p : Int) := ⟨(at0 % 65536).toNat, by omega⟩
    rw [hp] at ha
    have hpl : p < 65536 := by omega
    clear hp
    obtain ⟨k, hkd⟩ : ∃ k, k = p % (hd + bs.length + 1) := ⟨_, rfl⟩
    have hkl : k ≤ hd + bs.length := by have := Nat.mod_lt p (show 0 < hd + bs.length + 1 by omega); omega
    have hk : ((p : Int) % ((hd : Int) + (bs.length : Int) + 1)) = (k : Int) := by rw [hkd]; simp
    clear hkd
    by_cases hlt : k < hd
    · as_aux_lemma =>
        have HS := Lib.hid (Frm.short ⟨dst, src, vlan, ty, bs⟩ k (by rw [HHD.out]; exact hlt))
        have HP := Lib.hid (Parse_short _ _ w2 (HQ3.out.frontAt (K := k) (by rw [HFL.out]; exact hkl)) (by rw [List.length_take, HFL.out]; simp only; omega) HS.out)
        go_wp2_with fail
        refine HP.out.mono ?_
        rintro e w4 ⟨b4, he, hc4, hl4⟩
        have he' : e = .returned (.tuple #[.agg #[.int .u8 0, .int .u8 0, .int .u8 0, .int .u8 0, .int .u8 0, .int .u8 0, .int .u8 0, .int .u8 0, .int .u8 0, .int .u8 0, .int .u8 0, .int .u8 0, .int .i64 0, .int .u16 0, .slice none 0 0], .iface 67 (.pointer (some ⟨b4, 0, none⟩))]) := he
        subst he'
        have hn : Below w4.heap.size w4 (w4.alloc noObj) := below_al (Below.refl _ _) _
        have hl5 := below_to hl4 hn hl4.size
        have HC5 := Lib.hid (hc4.below hn)
        have HX4 := Lib.hid (HX3.out.below hl4)
        have HB5 := Lib.hid (below_to HB3.out hl5 HB3.out.size)
        clear HP HS HX3 HR3 HQ3 HB3 hc4 hn hl5 he ha hl4
        obtain ⟨c0, c1, c2, c3, c4, c5, c6, c7, c8, c9, c10, c11, c12, c13, c14⟩ := HX4.out.cells
        have hlt4 := HX4.out.lt
        clear c0 c1 c2 c3 c4 c5 c6 c7 c8 c9 c10 c11 c12 c13
        go_wp2_with (fail)
        refine (code_any 2 _ _ _ (HG.out.below HB5.out) HC5.out).mono ?_
        rintro e w6 ⟨rfl, hl6⟩
        have HB6 := Lib.hid (below_to HB5.out hl6 HB5.out.size)
        clear hl6
        go_wp2_with fail
        go_ret
        exact ⟨rfl, HB6.out⟩
    · as_aux_lemma =>
        obtain ⟨m, rfl⟩ : ∃ m, k = hd + m := ⟨k - hd, by omega⟩
        have hm : m ≤ bs.length := by omega
        have hk' : ((p : Int) % ((hd : Int) + (bs.length : Int) + 1)) = (hd : Int) + (m : Int) := by rw [hk]; omega
        obtain ⟨cs, hcs⟩ : ∃ cs, cs = bs.take m := ⟨_, rfl⟩
        have hcl : cs.length = m := by rw [hcs, List.length_take]; omega
        subst hcl
        have HCS := Lib.hid hcs
        have hcut := Frm.cut ⟨dst, src, vlan, ty, bs⟩ cs.length
        rw [HHD.out] at hcut
        simp only at hcut
        rw [← hcs] at hcut
        have hfl2 := Frm.bs_len ⟨dst, src, vlan, ty, cs⟩
        have hok2 : Frm.Ok ⟨dst, src, vlan, ty, cs⟩ := ⟨HOK.out.ty, HOK.out.tag⟩
        have hq := HQ3.out.frontAt (K := hd + cs.length) (by rw [HFL.out]; simp only; omega)
        rw [hcut] at hq
        have HP := Lib.hid (Parse_ok _ ⟨dst, src, vlan, ty, cs⟩ hok2 w2 hq (by rw [← hcut, List.length_take, HFL.out]; simp only; omega))
        have hrc := HR3.out.frontAt (K := cs.length) hm
        rw [← hcs] at hrc
        have HRC := Lib.hid hrc
        clear hk hcs hcut hfl2 hok2 hq HOK HFL HHD HQ3 HR3 hlt hrc
        go_wp2_with fail
        refine HP.out.mono ?_
        rintro e w6 ⟨b6, he, _, ho6, hl6⟩
        rw [Frm.val_lit] at he
        simp only at he
        subst he
        have hn : Below w6.heap.size w6 (w6.alloc (Frm.obj ⟨dst, src, vlan, ty, cs⟩ (.slice (some ⟨b6, 0, none⟩) cs.length cs.length))) := below_al (Below.refl _ _) _
        have hl7 := below_to hl6 hn hl6.size
        have HX6 := Lib.hid (HX3.out.below hl6)
        have HX7 := Lib.hid (HX3.out.below hl7)
        have HY7 := Lib.hid (BoxAt.new w6 ⟨dst, src, vlan, ty, cs⟩ (.slice (some ⟨b6, 0, none⟩) cs.length cs.length))
        have HQ7 := Lib.hid ((show Rd w6 _ cs from Rd.of_obj ho6 (Nat.le_refl _)).below hn)
        have HR7 := Lib.hid (HRC.out.below hl7)
        have HB7 := Lib.hid (below_to HB3.out hl7 HB3.out.size)
        clear HP HX3 HRC HB3 hn hl7 ha ho6 HCS hl6
        obtain ⟨c0, c1, c2, c3, c4, c5, c6, c7, c8, c9, c10, c11, c12, c13, c14⟩ := HX6.out.cells
        have hlt6 := HX6.out.lt
        clear c0 c1 c2 c3 c4 c5 c6 c7 c8 c9 c10 c11 c12 c13
        go_wp2_with (fail)
        clear c14 hlt6 HX6
        generalize hW : w6.alloc (Frm.obj ⟨dst, src, vlan, ty, cs⟩ (.slice (some ⟨b6, 0, none⟩) cs.length cs.length)) = W at HX7 HY7 HQ7 HR7 HB7
        unfold Frm.obj at hW
        simp only at hW
        rw [hW]
        clear hW
        generalize w6.heap.size = gx at *
        have v1 : ∀ k, (convert 22 9 (.slice (some ⟨b6, 0, none⟩) cs.length cs.length)).run Tryd.prog (W.drewN k) = .ok (.string (txt cs)) (W.drewN k) := fun k => convert_rd (HQ7.out.drewN k)
        have v2 : ∀ k, (convert 22 9 (.slice A cs.length c)).run Tryd.prog (W.drewN k) = .ok (.string (txt cs)) (W.drewN k) := fun k => convert_rd (HR7.out.drewN k)
        have e1 := fun k => mac_same dst (W.drewN k)
        have e2 := fun k => mac_same src (W.drewN k)
        obtain ⟨c0, c1, c2, c3, c4, c5, c6, c7, c8, c9, c10, c11, c12, c13, c14⟩ := HX7.out.cells
        obtain ⟨d0, d1, d2, d3, d4, d5, d6, d7, d8, d9, d10, d11, d12, d13, d14⟩ := HY7.out.cells
        simp only at c0 c1 c2 c3 c4 c5 c6 c7 c8 c9 c10 c11 c12 c13 c14 d0 d1 d2 d3 d4 d5 d6 d7 d8 d9 d10 d11 d12 d13 d14
        have s1 : IntKind.i64.wrap ((hd : Int) + (cs.length : Int) - (hd : Int)) = (cs.length : Int) := by rw [i64_fits _ (by omega) (by omega)]; omega
        have s2 : IntKind.i64.wrap (cs.length : Int) = (cs.length : Int) := i64_fits _ (by omega) (by omega)
        have hcc : cs.length ≤ c := HR7.out.cap_le
        go_quiet (fail)
        go_wp2_with fail
        go_ret
        exact ⟨rfl, below_drewN HB7.out nq⟩
  · as_aux_lemma =>
      have FB := Lib.hid (fBytes_arg ⟨dst, src, vlan, ty, bs⟩ hbad A bs.length c X)
      refine FB.out.mono ?_
      rintro e w2 ⟨b2, rfl, hc2, hl2⟩
      have HB3 := Lib.hid (below_to HB2.out hl2 HB2.out.size)
      clear FB HX2 HR2 HB2 hc2 hl2
      go_wp2_with fail
      go_ret
      exact ⟨rfl, HB3.out⟩
end Go.Proofs.YtkpncnbgdammaaaDoor
