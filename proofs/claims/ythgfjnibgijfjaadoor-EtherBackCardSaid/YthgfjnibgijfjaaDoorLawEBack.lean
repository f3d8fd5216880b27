/-
  What is proved: the law EtherBack answers true for any bytes and frame, and leaves all older memory as it was.
  Conditions: errors.errorType holds the handle of the type error; api.All holds six times 255; the slices are of fewer than 2^63 bytes.
-/
import Derived.Test.YthgfjnibgijfjaaDoorESplit
import Derived.Deep.RegionHeldLaw
namespace Go.Proofs.YthgfjnibgijfjaaDoor
open Go.RowKit

theorem two_at {W : World} {A : Option Addr} {n c : Nat} {l : List UInt8} (h : Rd W (.slice A n c) l) (hl : 14 ≤ l.length) :
    ∃ (g o : Nat) (u v : UInt8), A = some ⟨g, o, none⟩ ∧ l[12]? = some u ∧ l[13]? = some v ∧ W.cell? ⟨g, o + 12, none⟩ = some (.int .u8 u.toNat) ∧ W.cell? ⟨g, o + 13, none⟩ = some (.int .u8 v.toNat) := by
  obtain ⟨A', c', hv', _, hr⟩ := h
  cases hv'
  obtain ⟨g, o, e, hi⟩ := hr (by omega)
  have h1 : l[12]? = some (l[12]'(by omega)) := List.getElem?_eq_getElem (by omega)
  have h2 : l[13]? = some (l[13]'(by omega)) := List.getElem?_eq_getElem (by omega)
  exact ⟨g, o, _, _, e, h1, h2, hi 12 _ h1, hi 13 _ h2⟩
structure BackSec (w : World) (dst src : M6) (vlan : Int) (ty : Nat) (b : List UInt8) (A : Option Addr) (c : Nat) (W : World) : Prop where
  box : BoxAt W w.heap.size ⟨dst, src, vlan, ty, b⟩ (.slice A b.length c)
  row : Rd W (.slice A b.length c) b
  old : Below w.heap.size w W
/-- Behind the second Parse: the argument's box, and the answer's. -/
structure BackEnd (w : World) (dst src : M6) (vlan : Int) (ty : Nat) (b : List UInt8) (A : Option Addr) (c gx b8 : Nat) (W : World) : Prop where
  boxA : BoxAt W w.heap.size ⟨dst, src, vlan, ty, b⟩ (.slice A b.length c)
  rowA : Rd W (.slice A b.length c) b
  boxB : BoxAt W gx ⟨dst, src, vlan, ty, b⟩ (.slice (some ⟨b8, 0, none⟩) b.length b.length)
  rowB : Rd W (.slice (some ⟨b8, 0, none⟩) b.length b.length) b
  old : Below w.heap.size w W
/-- The cells of both boxes under letters, and 'of' of each. -/
theorem end_letters {Y : World} {dst src : M6} {vlan : Int} {ty : Nat} {b : List UInt8} {A B : Option Addr} {c d G gx : Nat} (rv : Value) (hrv : rv = .agg (refRow ⟨dst, src, vlan, ty, b⟩)) (hty : ty < 65536)
    (hA : BoxAt Y G ⟨dst, src, vlan, ty, b⟩ (.slice A b.length c)) (hB : BoxAt Y gx ⟨dst, src, vlan, ty, b⟩ (.slice B b.length d)) (hrA : Rd Y (.slice A b.length c) b) (hrB : Rd Y (.slice B b.length d) b) :
    ∃ y0 y1 y2 y3 y4 y5 y6 y7 y8 y9 y10 y11 y12 y13 : Value, (∀ W, Below Y.heap.size Y W → W.cell? ⟨gx, 0, none⟩ = some y0 ∧ W.cell? ⟨gx, 1, none⟩ = some y1 ∧ W.cell? ⟨gx, 2, none⟩ = some y2 ∧ W.cell? ⟨gx, 3, none⟩ = some y3 ∧ W.cell? ⟨gx, 4, none⟩ = some y4 ∧ W.cell? ⟨gx, 5, none⟩ = some y5 ∧ W.cell? ⟨gx, 6, none⟩ = some y6 ∧ W.cell? ⟨gx, 7, none⟩ = some y7 ∧ W.cell? ⟨gx, 8, none⟩ = some y8 ∧ W.cell? ⟨gx, 9, none⟩ = some y9 ∧ W.cell? ⟨gx, 10, none⟩ = some y10 ∧ W.cell? ⟨gx, 11, none⟩ = some y11 ∧ W.cell? ⟨gx, 12, none⟩ = some y12 ∧ W.cell? ⟨gx, 13, none⟩ = some y13 ∧ W.cell? ⟨gx, 14, none⟩ = some (.slice B b.length d) ∧ W.cell? ⟨G, 0, none⟩ = some y0 ∧ W.cell? ⟨G, 1, none⟩ = some y1 ∧ W.cell? ⟨G, 2, none⟩ = some y2 ∧ W.cell? ⟨G, 3, none⟩ = some y3 ∧ W.cell? ⟨G, 4, none⟩ = some y4 ∧ W.cell? ⟨G, 5, none⟩ = some y5 ∧ W.cell? ⟨G, 6, none⟩ = some y6 ∧ W.cell? ⟨G, 7, none⟩ = some y7 ∧ W.cell? ⟨G, 8, none⟩ = some y8 ∧ W.cell? ⟨G, 9, none⟩ = some y9 ∧ W.cell? ⟨G, 10, none⟩ = some y10 ∧ W.cell? ⟨G, 11, none⟩ = some y11 ∧ W.cell? ⟨G, 12, none⟩ = some y12 ∧ W.cell? ⟨G, 13, none⟩ = some y13 ∧ W.cell? ⟨G, 14, none⟩ = some (.slice A b.length c)) ∧
      (∀ W, Below Y.heap.size Y W → Calls Tryd.prog 14 #[.agg #[y0, y1, y2, y3, y4, y5, y6, y7, y8, y9, y10, y11, y12, y13, .slice B b.length d]] W fun e w' => e = .returned rv ∧ Below W.heap.size W w') ∧
      ∀ W, Below Y.heap.size Y W → Calls Tryd.prog 14 #[.agg #[y0, y1, y2, y3, y4, y5, y6, y7, y8, y9, y10, y11, y12, y13, .slice A b.length c]] W fun e w' => e = .returned rv ∧ Below W.heap.size W w' := by
  subst hrv
  refine ⟨_, _, _, _, _, _, _, _, _, _, _, _, _, _, fun W hW => ?_, fun W hW => of_any ⟨dst, src, vlan, ty, b⟩ B d W hty (hrB.below hW), fun W hW => of_any ⟨dst, src, vlan, ty, b⟩ A c W hty (hrA.below hW)⟩
  obtain ⟨c0, c1, c2, c3, c4, c5, c6, c7, c8, c9, c10, c11, c12, c13, c14⟩ := (hB.below hW).cells
  obtain ⟨d0, d1, d2, d3, d4, d5, d6, d7, d8, d9, d10, d11, d12, d13, d14⟩ := (hA.below hW).cells
  exact ⟨c0, c1, c2, c3, c4, c5, c6, c7, c8, c9, c10, c11, c12, c13, c14, d0, d1, d2, d3, d4, d5, d6, d7, d8, d9, d10, d11, d12, d13, d14⟩
/-- Behind the first half: the argument's box, and all older memory. -/
structure BackSt (w : World) (dst src : M6) (vlan : Int) (ty : Nat) (b : List UInt8) (A : Option Addr) (c : Nat) (W : World) : Prop where
  box : BoxAt W w.heap.size ⟨dst, src, vlan, ty, b⟩ (.slice A b.length c)
  old : Below w.heap.size w W
theorem BackSt.below {w : World} {dst src : M6} {vlan : Int} {ty : Nat} {b : List UInt8} {A : Option Addr} {c : Nat} {W W' : World} (h : BackSt w dst src vlan ty b A c W) (hb : Below W.heap.size W W') : BackSt w dst src vlan ty b A c W' :=
  ⟨h.box.below hb, below_to h.old hb h.old.size⟩

set_option maxRecDepth 100000 in
set_option maxHeartbeats 8000000 in
theorem back_any (A0 : Option Addr) (c0 : Nat) (l0 : List UInt8) (f0 : Frm) (A : Option Addr) (c : Nat) (w : World) (hg : Hdl w) (ha : AllAt w) (hr0 : Rd w (.slice A0 l0.length c0) l0) (hc0 : c0 ≤ 9223372036854775807)
    (hin : f0.In) (hr : Rd w (.slice A f0.b.length c) f0.b) (hc : c ≤ 9223372036854775807) :
    Calls Tryd.prog 4 #[.slice A0 l0.length c0, f0.val (.slice A f0.b.length c)] w fun e w' => e = .returned (.bool true) ∧ Below w.heap.size w w' := by
  obtain ⟨dst, src, vlan, ty, b⟩ := f0
  have hty0 : ty < 65536 := hin.ty
  simp only at hr ⊢
  have hlc := hr.cap_le
  have hlc0 := hr0.cap_le
  obtain ⟨bs, hbs, hbl, hr1⟩ := front_of b 10000 hr
  obtain ⟨ls, hls, hll, hr2⟩ := front_of l0 10000 hr0
  have hb0 : Below w.heap.size w (w.alloc (Frm.obj ⟨dst, src, vlan, ty, b⟩ (.slice A b.length c))) := below_al (Below.refl _ _) _
  have HS := Lib.hid (shown_any _ (hg.below hb0) (ha.below hb0))
  have HX0 := Lib.hid (show BackSt w dst src vlan ty b A c _ from ⟨BoxAt.new w ⟨dst, src, vlan, ty, b⟩ (.slice A b.length c), hb0⟩)
  have HR := Lib.hid hr1
  have HL := Lib.hid hr2
  have hmin := fun W => min_run (P := Tryd.prog) #[3, 3] 3 (l0.length : Int) 10000 (ls.length : Int) (by omega) W
  have HMIN := Lib.hid (fun W => min_run (P := Tryd.prog) #[3, 3] 3 (b.length : Int) 10000 (bs.length : Int) (by omega) W)
  have hK1 : bs.length ≤ b.length := by omega
  have hK2 : bs.length ≤ 10000 := by omega
  have hJ1 : ls.length ≤ l0.length := by omega
  have hJ2 : ls.length ≤ 10000 := by omega
  clear hg ha hb0 hr hr1 hbs hbl hin hr0 hr2 hls hll
  rw [Frm.val_lit]
  unfold Frm.obj at HS
  simp only at HS ⊢
  go_enter Tryd.func4, Tryd.ntmps4
  go_wp2_with fail
  refine HS.out.mono ?_
  rintro e w1 ⟨rfl, hb1⟩
  have HX1 := Lib.hid (HX0.out.below hb1)
  clear HS hb1 HX0
  go_wp2_with fail
  have HL1 := Lib.hid (HL.out.below HX1.out.old)
  clear hmin HL
  by_cases h9 : ls.length ≤ 9000
  · rcases frm_split ls with hs | ⟨fx, hfx, hls⟩
    · rcases short_shape hs with h14 | ⟨h14, h18, hu0, hv0⟩
      · as_aux_lemma =>
          have HP := Lib.hid (Parse_short _ ls w1 HL1.out h9 hs)
          clear hs
          refine HP.out.mono ?_
          rintro e w2 ⟨b2, he, _, hl2⟩
          have he' : e = .returned (.tuple #[.agg #[.int .u8 0, .int .u8 0, .int .u8 0, .int .u8 0, .int .u8 0, .int .u8 0, .int .u8 0, .int .u8 0, .int .u8 0, .int .u8 0, .int .u8 0, .int .u8 0, .int .i64 0, .int .u16 0, .slice none 0 0], .iface 86 (.pointer (some ⟨b2, 0, none⟩))]) := he
          subst he'
          have hl3 := below_to hl2 (below_al (Below.refl _ _) noObj) hl2.size
          have HX := Lib.hid (HX1.out.below hl3)
          have HL3 := Lib.hid (HL1.out.below hl3)
          clear HP hl2 hl3 HX1 HL1 he
          go_upto_region 4 with fail
          generalize hW : w2.alloc noObj = W at HX HL3
          unfold noObj at hW
          rw [hW]
          clear hW
          clear HL3
          go_upto_region 12 with fail
          go_cut [3, 5] from 0 to 111 (fun s3 s5 wx => s3 = .pointer (some ⟨w.heap.size, 0, none⟩) ∧ s5 = .bool true ∧ BackSec w dst src vlan ty bs A c wx)
          case first =>
            obtain ⟨c0, c1, c2, c3, c4, c5, c6, c7, c8, c9, c10, c11, c12, c13, c14⟩ := HX.out.box.cells
            clear c0 c1 c2 c3 c4 c5 c6 c7 c8 c9 c10 c11 c12 c13
            have z14 := HX.out.box.free 14
            have hmin := HMIN.out
            go_wp2_with fail
            go_meet
            exact ⟨rfl, rfl, (HX.out.box.set14 (.slice A bs.length c)).bytes bs, (HR.out.below HX.out.old).over14 HX.out.box _, HX.out.old.setCell (Nat.le_refl _) _⟩
          obtain ⟨rfl, rfl, hst⟩ := hcut
          generalize wc = X at *
          have HX2 := Lib.hid hst.box
          have HR2 := Lib.hid hst.row
          have HB2 := Lib.hid hst.old
          clear hst HX HR HMIN
          obtain ⟨c0, c1, c2, c3, c4, c5, c6, c7, c8, c9, c10, c11, c12, c13, c14⟩ := HX2.out.cells
          simp only at c0 c1 c2 c3 c4 c5 c6 c7 c8 c9 c10 c11 c12 c13 c14
          go_wp2_with fail
          clear c0 c1 c2 c3 c4 c5 c6 c7 c8 c9 c10 c11 c12 c13 c14
          rcases Frm.ok_or_bad ⟨dst, src, vlan, ty, bs⟩ hty0 with hok | hbad
          · by_cases hsz : (Frm.bs ⟨dst, src, vlan, ty, bs⟩).length ≤ 9000
            · as_aux_lemma =>
                obtain ⟨fs, hfs⟩ : ∃ fs, fs = Frm.bs ⟨dst, src, vlan, ty, bs⟩ := ⟨_, rfl⟩
                have fb := fBytes_ok ⟨dst, src, vlan, ty, bs⟩ hok A c X HR2.out hsz
                rw [← hfs] at fb
                have FB := Lib.hid fb
                have HOK := Lib.hid hok
                have HSZ := Lib.hid hsz
                have HFS := Lib.hid hfs
                clear hok hsz fb hfs
                refine FB.out.mono ?_
                rintro e w7 ⟨b7, rfl, _, ho7, hl7⟩
                have hq7 : ∀ l, fs = l → Rd w7 (.slice (some ⟨b7, 0, none⟩) fs.length fs.length) l := by rintro l rfl; exact Rd.of_obj ho7 (Nat.le_refl _)
                have HP := Lib.hid (Parse_ok _ ⟨dst, src, vlan, ty, bs⟩ HOK.out w7 (hq7 _ HFS.out) HSZ.out)
                have HX7 := Lib.hid (HX2.out.below hl7)
                have HR7 := Lib.hid (HR2.out.below hl7)
                have HB7 := Lib.hid (below_to HB2.out hl7 HB2.out.size)
                clear FB HX2 HR2 HB2 ho7 hl7 hq7
                go_upto_region 16 with fail
                go_cut [14, 15] from 6 to 111 (fun s14 s15 wx => ∃ gx b8, s14 = .pointer (some ⟨gx, 0, none⟩) ∧ s15 = .nilIface ∧ BackEnd w dst src vlan ty bs A c gx b8 wx)
                case first =>
                  go_wp2_with fail
                  refine HP.out.mono ?_
                  rintro e w8 ⟨b8, he, _, ho8, hl8⟩
                  rw [Frm.val_lit] at he
                  simp only at he
                  subst he
                  have hn : Below w8.heap.size w8 (w8.alloc (Frm.obj ⟨dst, src, vlan, ty, bs⟩ (.slice (some ⟨b8, 0, none⟩) bs.length bs.length))) := below_al (Below.refl _ _) _
                  have hl9 := below_to hl8 hn hl8.size
                  have HE := Lib.hid (show BackEnd w dst src vlan ty bs A c w8.heap.size b8 (w8.alloc (Frm.obj ⟨dst, src, vlan, ty, bs⟩ (.slice (some ⟨b8, 0, none⟩) bs.length bs.length))) from
                    ⟨HX7.out.below hl9, HR7.out.below hl9, BoxAt.new w8 ⟨dst, src, vlan, ty, bs⟩ (.slice (some ⟨b8, 0, none⟩) bs.length bs.length), (show Rd w8 _ bs from Rd.of_obj ho8 (Nat.le_refl _)).below hn, below_to HB7.out hl9 HB7.out.size⟩)
                  clear HP HX7 HR7 HB7 ho8 hl8 hn hl9
                  unfold Frm.obj at HE
                  simp only at HE
                  go_wp2_with fail
                  go_meet
                  exact ⟨_, _, rfl, rfl, HE.out⟩
                obtain ⟨gx, b8, rfl, rfl, hst⟩ := hcut
                generalize wc = Y at *
                have HX9 := Lib.hid hst.boxA
                have HR9 := Lib.hid hst.rowA
                have HY9 := Lib.hid hst.boxB
                have HQ9 := Lib.hid hst.rowB
                have HB9 := Lib.hid hst.old
                clear hst HP HX7 HR7 HB7
                go_upto_region 17 with fail
                obtain ⟨t1, ht1⟩ : ∃ t, txt dst.bs = t := ⟨_, rfl⟩
                obtain ⟨t2, ht2⟩ : ∃ t, txt src.bs = t := ⟨_, rfl⟩
                obtain ⟨t3, ht3⟩ : ∃ t, txt bs = t := ⟨_, rfl⟩
                have hrv : Value.agg #[.string t1, .string t2, .int .i64 vlan, .int .u32 ty, .string t3] = .agg (refRow ⟨dst, src, vlan, ty, bs⟩) := by rw [← ht1, ← ht2, ← ht3]; rfl
                have e1 := fun W => ref_same t1 t2 t3 vlan (ty : Int) W
                obtain ⟨y0, y1, y2, y3, y4, y5, y6, y7, y8, y9, y10, y11, y12, y13, KS, X1, X2⟩ := end_letters _ hrv hty0 HX9.out HY9.out HR9.out HQ9.out
                have HK := Lib.hid KS
                have HX1 := Lib.hid (X1 Y.drew (below_drew Y))
                have HX2 := Lib.hid X2
                clear hrv X1 X2 ht1 ht2 ht3 KS
                go_region_held_law (fun W => W.cell? ⟨gx, 0, none⟩ = some y0 ∧ W.cell? ⟨gx, 1, none⟩ = some y1 ∧ W.cell? ⟨gx, 2, none⟩ = some y2 ∧ W.cell? ⟨gx, 3, none⟩ = some y3 ∧ W.cell? ⟨gx, 4, none⟩ = some y4 ∧ W.cell? ⟨gx, 5, none⟩ = some y5 ∧ W.cell? ⟨gx, 6, none⟩ = some y6 ∧ W.cell? ⟨gx, 7, none⟩ = some y7 ∧ W.cell? ⟨gx, 8, none⟩ = some y8 ∧ W.cell? ⟨gx, 9, none⟩ = some y9 ∧ W.cell? ⟨gx, 10, none⟩ = some y10 ∧ W.cell? ⟨gx, 11, none⟩ = some y11 ∧ W.cell? ⟨gx, 12, none⟩ = some y12 ∧ W.cell? ⟨gx, 13, none⟩ = some y13 ∧ W.cell? ⟨gx, 14, none⟩ = some (.slice (some ⟨b8, 0, none⟩) bs.length bs.length) ∧ W.cell? ⟨w.heap.size, 0, none⟩ = some y0 ∧ W.cell? ⟨w.heap.size, 1, none⟩ = some y1 ∧ W.cell? ⟨w.heap.size, 2, none⟩ = some y2 ∧ W.cell? ⟨w.heap.size, 3, none⟩ = some y3 ∧ W.cell? ⟨w.heap.size, 4, none⟩ = some y4 ∧ W.cell? ⟨w.heap.size, 5, none⟩ = some y5 ∧ W.cell? ⟨w.heap.size, 6, none⟩ = some y6 ∧ W.cell? ⟨w.heap.size, 7, none⟩ = some y7 ∧ W.cell? ⟨w.heap.size, 8, none⟩ = some y8 ∧ W.cell? ⟨w.heap.size, 9, none⟩ = some y9 ∧ W.cell? ⟨w.heap.size, 10, none⟩ = some y10 ∧ W.cell? ⟨w.heap.size, 11, none⟩ = some y11 ∧ W.cell? ⟨w.heap.size, 12, none⟩ = some y12 ∧ W.cell? ⟨w.heap.size, 13, none⟩ = some y13 ∧ W.cell? ⟨w.heap.size, 14, none⟩ = some (.slice A bs.length c))
                  (first | assumption | exact HK.out _ (below_drew Y) | exact HK.out _ (HL11.out) | exact HK.out _ (HL10.out))
                  (first
                    | (go_at_call 14; (with_reducible refine HX1.out.mono ?_); rintro e w10 ⟨rfl, hl10⟩; (have HL10 := Lib.hid ((below_drew Y).trans hl10)); (have HX3 := Lib.hid (HX2.out w10 HL10.out)); clear hl10)
                    | (go_at_call 14; (with_reducible refine HX3.out.mono ?_); rintro e w11 ⟨rfl, hl11⟩; (have HL11 := Lib.hid (below_to HL10.out hl11 HL10.out.size)); clear hl11))
                all_goals (go_wp2_with fail)
                all_goals go_ret
                all_goals exact ⟨rfl, below_to HB9.out HL11.out HB9.out.size⟩
            · as_aux_lemma =>
                have FB := Lib.hid (fBytes_big ⟨dst, src, vlan, ty, bs⟩ hok A bs.length c (by have := Frm.bs_len ⟨dst, src, vlan, ty, bs⟩; simp only at this; omega) (by omega) X)
                refine FB.out.mono ?_
                rintro e w7 ⟨b7, rfl, _, hl7⟩
                have HB7 := Lib.hid (below_to HB2.out hl7 HB2.out.size)
                clear FB hl7 hok hsz
                go_wp2_with fail
                go_ret
                exact ⟨rfl, HB7.out⟩
          · as_aux_lemma =>
              have FB := Lib.hid (fBytes_arg ⟨dst, src, vlan, ty, bs⟩ hbad A bs.length c X)
              refine FB.out.mono ?_
              rintro e w7 ⟨b7, rfl, _, hl7⟩
              have HB7 := Lib.hid (below_to HB2.out hl7 HB2.out.size)
              clear FB hl7 hbad
              go_wp2_with fail
              go_ret
              exact ⟨rfl, HB7.out⟩
      · as_aux_lemma =>
          have HP := Lib.hid (Parse_short _ ls w1 HL1.out h9 hs)
          have HU := Lib.hid hu0
          have HV := Lib.hid hv0
          clear hs hu0 hv0
          refine HP.out.mono ?_
          rintro e w2 ⟨b2, he, _, hl2⟩
          have he' : e = .returned (.tuple #[.agg #[.int .u8 0, .int .u8 0, .int .u8 0, .int .u8 0, .int .u8 0, .int .u8 0, .int .u8 0, .int .u8 0, .int .u8 0, .int .u8 0, .int .u8 0, .int .u8 0, .int .i64 0, .int .u16 0, .slice none 0 0], .iface 86 (.pointer (some ⟨b2, 0, none⟩))]) := he
          subst he'
          have hl3 := below_to hl2 (below_al (Below.refl _ _) noObj) hl2.size
          have HX := Lib.hid (HX1.out.below hl3)
          have HL3 := Lib.hid (HL1.out.below hl3)
          clear HP hl2 hl3 HX1 HL1 he
          go_upto_region 4 with fail
          generalize hW : w2.alloc noObj = W at HX HL3
          unfold noObj at hW
          rw [hW]
          clear hW
          obtain ⟨g, o, u, v, eA, hu, hv, k12, k13⟩ := two_at HL3.out (by omega)
          subst eA
          obtain rfl : u = 129 := Option.some.inj (hu.symm.trans HU.out)
          obtain rfl : v = 0 := Option.some.inj (hv.symm.trans HV.out)
          have k12' : W.cell? ⟨g, o + 12, none⟩ = some (.int .u8 129) := k12
          have k13' : W.cell? ⟨g, o + 13, none⟩ = some (.int .u8 0) := k13
          clear hu hv HU HV k12 k13 HL3
          go_upto_region 12 with fail
          go_cut [3, 5] from 0 to 111 (fun s3 s5 wx => s3 = .pointer (some ⟨w.heap.size, 0, none⟩) ∧ s5 = .bool true ∧ BackSec w dst src vlan ty bs A c wx)
          case first =>
            obtain ⟨c0, c1, c2, c3, c4, c5, c6, c7, c8, c9, c10, c11, c12, c13, c14⟩ := HX.out.box.cells
            clear c0 c1 c2 c3 c4 c5 c6 c7 c8 c9 c10 c11 c12 c13
            have z14 := HX.out.box.free 14
            have hmin := HMIN.out
            go_wp2_with fail
            go_meet
            exact ⟨rfl, rfl, (HX.out.box.set14 (.slice A bs.length c)).bytes bs, (HR.out.below HX.out.old).over14 HX.out.box _, HX.out.old.setCell (Nat.le_refl _) _⟩
          obtain ⟨rfl, rfl, hst⟩ := hcut
          generalize wc = X at *
          have HX2 := Lib.hid hst.box
          have HR2 := Lib.hid hst.row
          have HB2 := Lib.hid hst.old
          clear hst HX HR HMIN
          obtain ⟨c0, c1, c2, c3, c4, c5, c6, c7, c8, c9, c10, c11, c12, c13, c14⟩ := HX2.out.cells
          simp only at c0 c1 c2 c3 c4 c5 c6 c7 c8 c9 c10 c11 c12 c13 c14
          go_wp2_with fail
          clear c0 c1 c2 c3 c4 c5 c6 c7 c8 c9 c10 c11 c12 c13 c14
          rcases Frm.ok_or_bad ⟨dst, src, vlan, ty, bs⟩ hty0 with hok | hbad
          · by_cases hsz : (Frm.bs ⟨dst, src, vlan, ty, bs⟩).length ≤ 9000
            · as_aux_lemma =>
                obtain ⟨fs, hfs⟩ : ∃ fs, fs = Frm.bs ⟨dst, src, vlan, ty, bs⟩ := ⟨_, rfl⟩
                have fb := fBytes_ok ⟨dst, src, vlan, ty, bs⟩ hok A c X HR2.out hsz
                rw [← hfs] at fb
                have FB := Lib.hid fb
                have HOK := Lib.hid hok
                have HSZ := Lib.hid hsz
                have HFS := Lib.hid hfs
                clear hok hsz fb hfs
                refine FB.out.mono ?_
                rintro e w7 ⟨b7, rfl, _, ho7, hl7⟩
                have hq7 : ∀ l, fs = l → Rd w7 (.slice (some ⟨b7, 0, none⟩) fs.length fs.length) l := by rintro l rfl; exact Rd.of_obj ho7 (Nat.le_refl _)
                have HP := Lib.hid (Parse_ok _ ⟨dst, src, vlan, ty, bs⟩ HOK.out w7 (hq7 _ HFS.out) HSZ.out)
                have HX7 := Lib.hid (HX2.out.below hl7)
                have HR7 := Lib.hid (HR2.out.below hl7)
                have HB7 := Lib.hid (below_to HB2.out hl7 HB2.out.size)
                clear FB HX2 HR2 HB2 ho7 hl7 hq7
                go_upto_region 16 with fail
                go_cut [14, 15] from 6 to 111 (fun s14 s15 wx => ∃ gx b8, s14 = .pointer (some ⟨gx, 0, none⟩) ∧ s15 = .nilIface ∧ BackEnd w dst src vlan ty bs A c gx b8 wx)
                case first =>
                  go_wp2_with fail
                  refine HP.out.mono ?_
                  rintro e w8 ⟨b8, he, _, ho8, hl8⟩
                  rw [Frm.val_lit] at he
                  simp only at he
                  subst he
                  have hn : Below w8.heap.size w8 (w8.alloc (Frm.obj ⟨dst, src, vlan, ty, bs⟩ (.slice (some ⟨b8, 0, none⟩) bs.length bs.length))) := below_al (Below.refl _ _) _
                  have hl9 := below_to hl8 hn hl8.size
                  have HE := Lib.hid (show BackEnd w dst src vlan ty bs A c w8.heap.size b8 (w8.alloc (Frm.obj ⟨dst, src, vlan, ty, bs⟩ (.slice (some ⟨b8, 0, none⟩) bs.length bs.length))) from
                    ⟨HX7.out.below hl9, HR7.out.below hl9, BoxAt.new w8 ⟨dst, src, vlan, ty, bs⟩ (.slice (some ⟨b8, 0, none⟩) bs.length bs.length), (show Rd w8 _ bs from Rd.of_obj ho8 (Nat.le_refl _)).below hn, below_to HB7.out hl9 HB7.out.size⟩)
                  clear HP HX7 HR7 HB7 ho8 hl8 hn hl9
                  unfold Frm.obj at HE
                  simp only at HE
                  go_wp2_with fail
                  go_meet
                  exact ⟨_, _, rfl, rfl, HE.out⟩
                obtain ⟨gx, b8, rfl, rfl, hst⟩ := hcut
                generalize wc = Y at *
                have HX9 := Lib.hid hst.boxA
                have HR9 := Lib.hid hst.rowA
                have HY9 := Lib.hid hst.boxB
                have HQ9 := Lib.hid hst.rowB
                have HB9 := Lib.hid hst.old
                clear hst HP HX7 HR7 HB7
                go_upto_region 17 with fail
                obtain ⟨t1, ht1⟩ : ∃ t, txt dst.bs = t := ⟨_, rfl⟩
                obtain ⟨t2, ht2⟩ : ∃ t, txt src.bs = t := ⟨_, rfl⟩
                obtain ⟨t3, ht3⟩ : ∃ t, txt bs = t := ⟨_, rfl⟩
                have hrv : Value.agg #[.string t1, .string t2, .int .i64 vlan, .int .u32 ty, .string t3] = .agg (refRow ⟨dst, src, vlan, ty, bs⟩) := by rw [← ht1, ← ht2, ← ht3]; rfl
                have e1 := fun W => ref_same t1 t2 t3 vlan (ty : Int) W
                obtain ⟨y0, y1, y2, y3, y4, y5, y6, y7, y8, y9, y10, y11, y12, y13, KS, X1, X2⟩ := end_letters _ hrv hty0 HX9.out HY9.out HR9.out HQ9.out
                have HK := Lib.hid KS
                have HX1 := Lib.hid (X1 Y.drew (below_drew Y))
                have HX2 := Lib.hid X2
                clear hrv X1 X2 ht1 ht2 ht3 KS
                go_region_held_law (fun W => W.cell? ⟨gx, 0, none⟩ = some y0 ∧ W.cell? ⟨gx, 1, none⟩ = some y1 ∧ W.cell? ⟨gx, 2, none⟩ = some y2 ∧ W.cell? ⟨gx, 3, none⟩ = some y3 ∧ W.cell? ⟨gx, 4, none⟩ = some y4 ∧ W.cell? ⟨gx, 5, none⟩ = some y5 ∧ W.cell? ⟨gx, 6, none⟩ = some y6 ∧ W.cell? ⟨gx, 7, none⟩ = some y7 ∧ W.cell? ⟨gx, 8, none⟩ = some y8 ∧ W.cell? ⟨gx, 9, none⟩ = some y9 ∧ W.cell? ⟨gx, 10, none⟩ = some y10 ∧ W.cell? ⟨gx, 11, none⟩ = some y11 ∧ W.cell? ⟨gx, 12, none⟩ = some y12 ∧ W.cell? ⟨gx, 13, none⟩ = some y13 ∧ W.cell? ⟨gx, 14, none⟩ = some (.slice (some ⟨b8, 0, none⟩) bs.length bs.length) ∧ W.cell? ⟨w.heap.size, 0, none⟩ = some y0 ∧ W.cell? ⟨w.heap.size, 1, none⟩ = some y1 ∧ W.cell? ⟨w.heap.size, 2, none⟩ = some y2 ∧ W.cell? ⟨w.heap.size, 3, none⟩ = some y3 ∧ W.cell? ⟨w.heap.size, 4, none⟩ = some y4 ∧ W.cell? ⟨w.heap.size, 5, none⟩ = some y5 ∧ W.cell? ⟨w.heap.size, 6, none⟩ = some y6 ∧ W.cell? ⟨w.heap.size, 7, none⟩ = some y7 ∧ W.cell? ⟨w.heap.size, 8, none⟩ = some y8 ∧ W.cell? ⟨w.heap.size, 9, none⟩ = some y9 ∧ W.cell? ⟨w.heap.size, 10, none⟩ = some y10 ∧ W.cell? ⟨w.heap.size, 11, none⟩ = some y11 ∧ W.cell? ⟨w.heap.size, 12, none⟩ = some y12 ∧ W.cell? ⟨w.heap.size, 13, none⟩ = some y13 ∧ W.cell? ⟨w.heap.size, 14, none⟩ = some (.slice A bs.length c))
                  (first | assumption | exact HK.out _ (below_drew Y) | exact HK.out _ (HL11.out) | exact HK.out _ (HL10.out))
                  (first
                    | (go_at_call 14; (with_reducible refine HX1.out.mono ?_); rintro e w10 ⟨rfl, hl10⟩; (have HL10 := Lib.hid ((below_drew Y).trans hl10)); (have HX3 := Lib.hid (HX2.out w10 HL10.out)); clear hl10)
                    | (go_at_call 14; (with_reducible refine HX3.out.mono ?_); rintro e w11 ⟨rfl, hl11⟩; (have HL11 := Lib.hid (below_to HL10.out hl11 HL10.out.size)); clear hl11))
                all_goals (go_wp2_with fail)
                all_goals go_ret
                all_goals exact ⟨rfl, below_to HB9.out HL11.out HB9.out.size⟩
            · as_aux_lemma =>
                have FB := Lib.hid (fBytes_big ⟨dst, src, vlan, ty, bs⟩ hok A bs.length c (by have := Frm.bs_len ⟨dst, src, vlan, ty, bs⟩; simp only at this; omega) (by omega) X)
                refine FB.out.mono ?_
                rintro e w7 ⟨b7, rfl, _, hl7⟩
                have HB7 := Lib.hid (below_to HB2.out hl7 HB2.out.size)
                clear FB hl7 hok hsz
                go_wp2_with fail
                go_ret
                exact ⟨rfl, HB7.out⟩
          · as_aux_lemma =>
              have FB := Lib.hid (fBytes_arg ⟨dst, src, vlan, ty, bs⟩ hbad A bs.length c X)
              refine FB.out.mono ?_
              rintro e w7 ⟨b7, rfl, _, hl7⟩
              have HB7 := Lib.hid (below_to HB2.out hl7 HB2.out.size)
              clear FB hl7 hbad
              go_wp2_with fail
              go_ret
              exact ⟨rfl, HB7.out⟩
    · by_cases hv : fx.vlan = -1
      · as_aux_lemma =>
          obtain ⟨d0, s0, v0, y0, q0⟩ := fx
          simp only at hv
          subst hv
          have hyl : y0 < 65536 := hfx.ty
          have hyt : y0 ≠ 33024 := by rcases hfx.tag with h | h <;> simp only at h <;> omega
          have hlen := Frm.bs_len ⟨d0, s0, -1, y0, q0⟩
          rw [show Frm.head ⟨d0, s0, -1, y0, q0⟩ = 14 from rfl] at hlen
          simp only at hlen
          rw [← hls] at hlen
          have hq1 : ∀ l, ls = l → Rd w1 (.slice A0 ls.length c0) l := by rintro l rfl; exact HL1.out
          have HP := Lib.hid (Parse_ok _ ⟨d0, s0, -1, y0, q0⟩ hfx w1 (hq1 _ hls) (by rw [← hls]; exact h9))
          have HOK := Lib.hid hfx
          have HSZ := Lib.hid (show (Frm.bs ⟨d0, s0, -1, y0, q0⟩).length ≤ 9000 by rw [← hls]; exact h9)
          have HLS := Lib.hid hls
          have hl14 : 14 ≤ ls.length := by omega
          clear hfx hls hq1 hlen
          refine HP.out.mono ?_
          rintro e w2 ⟨b2, he, _, ho2, hl2⟩
          rw [Frm.val_lit] at he
          simp only at he
          subst he
          have hn : Below w2.heap.size w2 (w2.alloc (Frm.obj ⟨d0, s0, -1, y0, q0⟩ (.slice (some ⟨b2, 0, none⟩) q0.length q0.length))) := below_al (Below.refl _ _) _
          have hl3 := below_to hl2 hn hl2.size
          have HXa := Lib.hid (HX1.out.below hl3)
          have HL3 := Lib.hid (HL1.out.below hl3)
          have HY3 := Lib.hid (BoxAt.new w2 ⟨d0, s0, -1, y0, q0⟩ (.slice (some ⟨b2, 0, none⟩) q0.length q0.length))
          have HQ3 := Lib.hid ((show Rd w2 _ q0 from Rd.of_obj ho2 (Nat.le_refl _)).below hn)
          clear HP hl2 hl3 hn ho2 HX1 HL1
          go_upto_region 4 with fail
          generalize hW : w2.alloc (Frm.obj ⟨d0, s0, -1, y0, q0⟩ (.slice (some ⟨b2, 0, none⟩) q0.length q0.length)) = V at HXa HL3 HY3 HQ3
          unfold Frm.obj at hW
          simp only at hW
          rw [hW]
          clear hW
          generalize w2.heap.size = gx at *
          obtain ⟨u', v', hu', hv', huv⟩ := plain_at d0 s0 y0 q0 hyl hyt
          rw [← HLS.out] at hu' hv'
          obtain ⟨g, o, u, v, eA, hu, hv, k12, k13⟩ := two_at HL3.out (by omega)
          subst eA
          obtain rfl : u = u' := Option.some.inj (hu.symm.trans hu')
          obtain rfl : v = v' := Option.some.inj (hv.symm.trans hv')
          clear hu hv hu' hv'
          go_cut [8] (fun s8 wx => s8 = .bool false ∧ V = wx)
          case first =>
            by_cases a : u.toNat = 129
            · have t1 : ((u.toNat : Int) == 129) = true := by simp; omega
              have t2 : ((v.toNat : Int) == 0) = false := by simp; omega
              go_wp2_with fail
              go_meet
              exact ⟨rfl, rfl⟩
            · have t1 : ((u.toNat : Int) == 129) = false := by simp; omega
              go_wp2_with fail
              go_meet
              exact ⟨rfl, rfl⟩
          obtain ⟨rfl, rfl⟩ := hcut
          clear k12 k13 huv
          go_upto_region 5 with fail
          go_cut [9] (fun s9 wx => s9 = .bool true ∧ V = wx)
          case first =>
            by_cases a : 18 ≤ ls.length
            · have t1 : decide ((18 : Int) ≤ (ls.length : Int)) = true := by simp; omega
              go_wp2_with fail
              go_meet
              exact ⟨rfl, rfl⟩
            · have t1 : decide ((18 : Int) ≤ (ls.length : Int)) = false := by simp; omega
              go_wp2_with fail
              go_meet
              exact ⟨rfl, rfl⟩
          obtain ⟨rfl, rfl⟩ := hcut
          obtain ⟨m0, m1, m2, m3, m4, m5, m6, m7, m8, m9, m10, m11, m12, m13, m14⟩ := HY3.out.cells
          simp only at m0 m1 m2 m3 m4 m5 m6 m7 m8 m9 m10 m11 m12 m13 m14
          go_wp2_with fail
          have fb := fBytes_ok ⟨d0, s0, -1, y0, q0⟩ HOK.out (some ⟨b2, 0, none⟩) q0.length V HQ3.out HSZ.out
          rw [← HLS.out] at fb
          refine fb.mono ?_
          clear fb
          clear m0 m1 m2 m3 m4 m5 m6 m7 m8 m9 m10 m11 m12 m13 m14
          rintro e W ⟨b4, rfl, _, ho4, hl4⟩
          have HX := Lib.hid (HXa.out.below hl4)
          have q1 := convert_rd (show Rd W _ ls from Rd.of_obj ho4 (Nat.le_refl _))
          have q2 := convert_rd (HL3.out.below hl4)
          have m12 := ((HY3.out.below hl4).cells).2.2.2.2.2.2.2.2.2.2.2.2.1
          simp only at m12
          clear HXa HL3 HY3 HQ3 ho4 hl4 HOK HSZ HLS
          go_upto_region 12 with fail
          go_cut [3, 5] from 0 to 111 (fun s3 s5 wx => s3 = .pointer (some ⟨w.heap.size, 0, none⟩) ∧ s5 = .bool true ∧ BackSec w dst src vlan ty bs A c wx)
          case first =>
            obtain ⟨c0, c1, c2, c3, c4, c5, c6, c7, c8, c9, c10, c11, c12, c13, c14⟩ := HX.out.box.cells
            clear c0 c1 c2 c3 c4 c5 c6 c7 c8 c9 c10 c11 c12 c13
            have z14 := HX.out.box.free 14
            have hmin := HMIN.out
            go_wp2_with fail
            go_meet
            exact ⟨rfl, rfl, (HX.out.box.set14 (.slice A bs.length c)).bytes bs, (HR.out.below HX.out.old).over14 HX.out.box _, HX.out.old.setCell (Nat.le_refl _) _⟩
          obtain ⟨rfl, rfl, hst⟩ := hcut
          generalize wc = X at *
          have HX2 := Lib.hid hst.box
          have HR2 := Lib.hid hst.row
          have HB2 := Lib.hid hst.old
          clear hst HX HR HMIN
          obtain ⟨c0, c1, c2, c3, c4, c5, c6, c7, c8, c9, c10, c11, c12, c13, c14⟩ := HX2.out.cells
          simp only at c0 c1 c2 c3 c4 c5 c6 c7 c8 c9 c10 c11 c12 c13 c14
          go_wp2_with fail
          clear c0 c1 c2 c3 c4 c5 c6 c7 c8 c9 c10 c11 c12 c13 c14
          rcases Frm.ok_or_bad ⟨dst, src, vlan, ty, bs⟩ hty0 with hok | hbad
          · by_cases hsz : (Frm.bs ⟨dst, src, vlan, ty, bs⟩).length ≤ 9000
            · as_aux_lemma =>
                obtain ⟨fs, hfs⟩ : ∃ fs, fs = Frm.bs ⟨dst, src, vlan, ty, bs⟩ := ⟨_, rfl⟩
                have fb := fBytes_ok ⟨dst, src, vlan, ty, bs⟩ hok A c X HR2.out hsz
                rw [← hfs] at fb
                have FB := Lib.hid fb
                have HOK := Lib.hid hok
                have HSZ := Lib.hid hsz
                have HFS := Lib.hid hfs
                clear hok hsz fb hfs
                refine FB.out.mono ?_
                rintro e w7 ⟨b7, rfl, _, ho7, hl7⟩
                have hq7 : ∀ l, fs = l → Rd w7 (.slice (some ⟨b7, 0, none⟩) fs.length fs.length) l := by rintro l rfl; exact Rd.of_obj ho7 (Nat.le_refl _)
                have HP := Lib.hid (Parse_ok _ ⟨dst, src, vlan, ty, bs⟩ HOK.out w7 (hq7 _ HFS.out) HSZ.out)
                have HX7 := Lib.hid (HX2.out.below hl7)
                have HR7 := Lib.hid (HR2.out.below hl7)
                have HB7 := Lib.hid (below_to HB2.out hl7 HB2.out.size)
                clear FB HX2 HR2 HB2 ho7 hl7 hq7
                go_upto_region 16 with fail
                go_cut [14, 15] from 6 to 111 (fun s14 s15 wx => ∃ gx b8, s14 = .pointer (some ⟨gx, 0, none⟩) ∧ s15 = .nilIface ∧ BackEnd w dst src vlan ty bs A c gx b8 wx)
                case first =>
                  go_wp2_with fail
                  refine HP.out.mono ?_
                  rintro e w8 ⟨b8, he, _, ho8, hl8⟩
                  rw [Frm.val_lit] at he
                  simp only at he
                  subst he
                  have hn : Below w8.heap.size w8 (w8.alloc (Frm.obj ⟨dst, src, vlan, ty, bs⟩ (.slice (some ⟨b8, 0, none⟩) bs.length bs.length))) := below_al (Below.refl _ _) _
                  have hl9 := below_to hl8 hn hl8.size
                  have HE := Lib.hid (show BackEnd w dst src vlan ty bs A c w8.heap.size b8 (w8.alloc (Frm.obj ⟨dst, src, vlan, ty, bs⟩ (.slice (some ⟨b8, 0, none⟩) bs.length bs.length))) from
                    ⟨HX7.out.below hl9, HR7.out.below hl9, BoxAt.new w8 ⟨dst, src, vlan, ty, bs⟩ (.slice (some ⟨b8, 0, none⟩) bs.length bs.length), (show Rd w8 _ bs from Rd.of_obj ho8 (Nat.le_refl _)).below hn, below_to HB7.out hl9 HB7.out.size⟩)
                  clear HP HX7 HR7 HB7 ho8 hl8 hn hl9
                  unfold Frm.obj at HE
                  simp only at HE
                  go_wp2_with fail
                  go_meet
                  exact ⟨_, _, rfl, rfl, HE.out⟩
                obtain ⟨gx, b8, rfl, rfl, hst⟩ := hcut
                generalize wc = Y at *
                have HX9 := Lib.hid hst.boxA
                have HR9 := Lib.hid hst.rowA
                have HY9 := Lib.hid hst.boxB
                have HQ9 := Lib.hid hst.rowB
                have HB9 := Lib.hid hst.old
                clear hst HP HX7 HR7 HB7
                go_upto_region 17 with fail
                obtain ⟨t1, ht1⟩ : ∃ t, txt dst.bs = t := ⟨_, rfl⟩
                obtain ⟨t2, ht2⟩ : ∃ t, txt src.bs = t := ⟨_, rfl⟩
                obtain ⟨t3, ht3⟩ : ∃ t, txt bs = t := ⟨_, rfl⟩
                have hrv : Value.agg #[.string t1, .string t2, .int .i64 vlan, .int .u32 ty, .string t3] = .agg (refRow ⟨dst, src, vlan, ty, bs⟩) := by rw [← ht1, ← ht2, ← ht3]; rfl
                have e1 := fun W => ref_same t1 t2 t3 vlan (ty : Int) W
                obtain ⟨y0, y1, y2, y3, y4, y5, y6, y7, y8, y9, y10, y11, y12, y13, KS, X1, X2⟩ := end_letters _ hrv hty0 HX9.out HY9.out HR9.out HQ9.out
                have HK := Lib.hid KS
                have HX1 := Lib.hid (X1 Y.drew (below_drew Y))
                have HX2 := Lib.hid X2
                clear hrv X1 X2 ht1 ht2 ht3 KS
                go_region_held_law (fun W => W.cell? ⟨gx, 0, none⟩ = some y0 ∧ W.cell? ⟨gx, 1, none⟩ = some y1 ∧ W.cell? ⟨gx, 2, none⟩ = some y2 ∧ W.cell? ⟨gx, 3, none⟩ = some y3 ∧ W.cell? ⟨gx, 4, none⟩ = some y4 ∧ W.cell? ⟨gx, 5, none⟩ = some y5 ∧ W.cell? ⟨gx, 6, none⟩ = some y6 ∧ W.cell? ⟨gx, 7, none⟩ = some y7 ∧ W.cell? ⟨gx, 8, none⟩ = some y8 ∧ W.cell? ⟨gx, 9, none⟩ = some y9 ∧ W.cell? ⟨gx, 10, none⟩ = some y10 ∧ W.cell? ⟨gx, 11, none⟩ = some y11 ∧ W.cell? ⟨gx, 12, none⟩ = some y12 ∧ W.cell? ⟨gx, 13, none⟩ = some y13 ∧ W.cell? ⟨gx, 14, none⟩ = some (.slice (some ⟨b8, 0, none⟩) bs.length bs.length) ∧ W.cell? ⟨w.heap.size, 0, none⟩ = some y0 ∧ W.cell? ⟨w.heap.size, 1, none⟩ = some y1 ∧ W.cell? ⟨w.heap.size, 2, none⟩ = some y2 ∧ W.cell? ⟨w.heap.size, 3, none⟩ = some y3 ∧ W.cell? ⟨w.heap.size, 4, none⟩ = some y4 ∧ W.cell? ⟨w.heap.size, 5, none⟩ = some y5 ∧ W.cell? ⟨w.heap.size, 6, none⟩ = some y6 ∧ W.cell? ⟨w.heap.size, 7, none⟩ = some y7 ∧ W.cell? ⟨w.heap.size, 8, none⟩ = some y8 ∧ W.cell? ⟨w.heap.size, 9, none⟩ = some y9 ∧ W.cell? ⟨w.heap.size, 10, none⟩ = some y10 ∧ W.cell? ⟨w.heap.size, 11, none⟩ = some y11 ∧ W.cell? ⟨w.heap.size, 12, none⟩ = some y12 ∧ W.cell? ⟨w.heap.size, 13, none⟩ = some y13 ∧ W.cell? ⟨w.heap.size, 14, none⟩ = some (.slice A bs.length c))
                  (first | assumption | exact HK.out _ (below_drew Y) | exact HK.out _ (HL11.out) | exact HK.out _ (HL10.out))
                  (first
                    | (go_at_call 14; (with_reducible refine HX1.out.mono ?_); rintro e w10 ⟨rfl, hl10⟩; (have HL10 := Lib.hid ((below_drew Y).trans hl10)); (have HX3 := Lib.hid (HX2.out w10 HL10.out)); clear hl10)
                    | (go_at_call 14; (with_reducible refine HX3.out.mono ?_); rintro e w11 ⟨rfl, hl11⟩; (have HL11 := Lib.hid (below_to HL10.out hl11 HL10.out.size)); clear hl11))
                all_goals (go_wp2_with fail)
                all_goals go_ret
                all_goals exact ⟨rfl, below_to HB9.out HL11.out HB9.out.size⟩
            · as_aux_lemma =>
                have FB := Lib.hid (fBytes_big ⟨dst, src, vlan, ty, bs⟩ hok A bs.length c (by have := Frm.bs_len ⟨dst, src, vlan, ty, bs⟩; simp only at this; omega) (by omega) X)
                refine FB.out.mono ?_
                rintro e w7 ⟨b7, rfl, _, hl7⟩
                have HB7 := Lib.hid (below_to HB2.out hl7 HB2.out.size)
                clear FB hl7 hok hsz
                go_wp2_with fail
                go_ret
                exact ⟨rfl, HB7.out⟩
          · as_aux_lemma =>
              have FB := Lib.hid (fBytes_arg ⟨dst, src, vlan, ty, bs⟩ hbad A bs.length c X)
              refine FB.out.mono ?_
              rintro e w7 ⟨b7, rfl, _, hl7⟩
              have HB7 := Lib.hid (below_to HB2.out hl7 HB2.out.size)
              clear FB hl7 hbad
              go_wp2_with fail
              go_ret
              exact ⟨rfl, HB7.out⟩
      · as_aux_lemma =>
          obtain ⟨d0, s0, v0, y0, q0⟩ := fx
          simp only at hv
          have hyl : y0 < 65536 := hfx.ty
          have hv1 : 0 ≤ v0 ∧ v0 ≤ 65535 := by rcases hfx.tag with h | h <;> simp only at h <;> omega
          obtain ⟨hv1, hv2⟩ := hv1
          have hlen := Frm.bs_len ⟨d0, s0, v0, y0, q0⟩
          rw [show Frm.head ⟨d0, s0, v0, y0, q0⟩ = 18 by unfold Frm.head; exact if_neg hv] at hlen
          simp only at hlen
          rw [← hls] at hlen
          have hq1 : ∀ l, ls = l → Rd w1 (.slice A0 ls.length c0) l := by rintro l rfl; exact HL1.out
          have HP := Lib.hid (Parse_ok _ ⟨d0, s0, v0, y0, q0⟩ hfx w1 (hq1 _ hls) (by rw [← hls]; exact h9))
          have HOK := Lib.hid hfx
          have HSZ := Lib.hid (show (Frm.bs ⟨d0, s0, v0, y0, q0⟩).length ≤ 9000 by rw [← hls]; exact h9)
          have HLS := Lib.hid hls
          have hv0 := tagged_at d0 s0 v0 y0 q0 hv
          rw [← hls] at hv0
          have HV0 := Lib.hid hv0
          clear hv0
          have hl18 : 18 ≤ ls.length := by omega
          clear hfx hv hls hq1 hlen
          refine HP.out.mono ?_
          rintro e w2 ⟨b2, he, _, ho2, hl2⟩
          rw [Frm.val_lit] at he
          simp only at he
          subst he
          have hn : Below w2.heap.size w2 (w2.alloc (Frm.obj ⟨d0, s0, v0, y0, q0⟩ (.slice (some ⟨b2, 0, none⟩) q0.length q0.length))) := below_al (Below.refl _ _) _
          have hl3 := below_to hl2 hn hl2.size
          have HXa := Lib.hid (HX1.out.below hl3)
          have HL3 := Lib.hid (HL1.out.below hl3)
          have HY3 := Lib.hid (BoxAt.new w2 ⟨d0, s0, v0, y0, q0⟩ (.slice (some ⟨b2, 0, none⟩) q0.length q0.length))
          have HQ3 := Lib.hid ((show Rd w2 _ q0 from Rd.of_obj ho2 (Nat.le_refl _)).below hn)
          clear HP hl2 hl3 hn ho2 HX1 HL1
          go_upto_region 4 with fail
          generalize hW : w2.alloc (Frm.obj ⟨d0, s0, v0, y0, q0⟩ (.slice (some ⟨b2, 0, none⟩) q0.length q0.length)) = V at HXa HL3 HY3 HQ3
          unfold Frm.obj at hW
          simp only at hW
          rw [hW]
          clear hW
          generalize w2.heap.size = gx at *
          obtain ⟨g, o, u, v, eA, hu, hv, k12, k13⟩ := two_at HL3.out (by omega)
          subst eA
          obtain rfl : u = 129 := Option.some.inj (hu.symm.trans HV0.out.1)
          obtain rfl : v = 0 := Option.some.inj (hv.symm.trans HV0.out.2)
          have k12' : V.cell? ⟨g, o + 12, none⟩ = some (.int .u8 129) := k12
          have k13' : V.cell? ⟨g, o + 13, none⟩ = some (.int .u8 0) := k13
          clear hu hv k12 k13 HV0
          obtain ⟨m0, m1, m2, m3, m4, m5, m6, m7, m8, m9, m10, m11, m12, m13, m14⟩ := HY3.out.cells
          simp only at m0 m1 m2 m3 m4 m5 m6 m7 m8 m9 m10 m11 m12 m13 m14
          go_wp2_with fail
          have fb := fBytes_ok ⟨d0, s0, v0, y0, q0⟩ HOK.out (some ⟨b2, 0, none⟩) q0.length V HQ3.out HSZ.out
          rw [← HLS.out] at fb
          refine fb.mono ?_
          clear fb
          clear m0 m1 m2 m3 m4 m5 m6 m7 m8 m9 m10 m11 m12 m13 m14
          rintro e W ⟨b4, rfl, _, ho4, hl4⟩
          have HX := Lib.hid (HXa.out.below hl4)
          have q1 := convert_rd (show Rd W _ ls from Rd.of_obj ho4 (Nat.le_refl _))
          have q2 := convert_rd (HL3.out.below hl4)
          have m12 := ((HY3.out.below hl4).cells).2.2.2.2.2.2.2.2.2.2.2.2.1
          simp only at m12
          clear HXa HL3 HY3 HQ3 ho4 hl4 HOK HSZ HLS
          go_upto_region 12 with fail
          go_cut [3, 5] from 0 to 111 (fun s3 s5 wx => s3 = .pointer (some ⟨w.heap.size, 0, none⟩) ∧ s5 = .bool true ∧ BackSec w dst src vlan ty bs A c wx)
          case first =>
            obtain ⟨c0, c1, c2, c3, c4, c5, c6, c7, c8, c9, c10, c11, c12, c13, c14⟩ := HX.out.box.cells
            clear c0 c1 c2 c3 c4 c5 c6 c7 c8 c9 c10 c11 c12 c13
            have z14 := HX.out.box.free 14
            have hmin := HMIN.out
            go_wp2_with fail
            go_meet
            exact ⟨rfl, rfl, (HX.out.box.set14 (.slice A bs.length c)).bytes bs, (HR.out.below HX.out.old).over14 HX.out.box _, HX.out.old.setCell (Nat.le_refl _) _⟩
          obtain ⟨rfl, rfl, hst⟩ := hcut
          generalize wc = X at *
          have HX2 := Lib.hid hst.box
          have HR2 := Lib.hid hst.row
          have HB2 := Lib.hid hst.old
          clear hst HX HR HMIN
          obtain ⟨c0, c1, c2, c3, c4, c5, c6, c7, c8, c9, c10, c11, c12, c13, c14⟩ := HX2.out.cells
          simp only at c0 c1 c2 c3 c4 c5 c6 c7 c8 c9 c10 c11 c12 c13 c14
          go_wp2_with fail
          clear c0 c1 c2 c3 c4 c5 c6 c7 c8 c9 c10 c11 c12 c13 c14
          rcases Frm.ok_or_bad ⟨dst, src, vlan, ty, bs⟩ hty0 with hok | hbad
          · by_cases hsz : (Frm.bs ⟨dst, src, vlan, ty, bs⟩).length ≤ 9000
            · as_aux_lemma =>
                obtain ⟨fs, hfs⟩ : ∃ fs, fs = Frm.bs ⟨dst, src, vlan, ty, bs⟩ := ⟨_, rfl⟩
                have fb := fBytes_ok ⟨dst, src, vlan, ty, bs⟩ hok A c X HR2.out hsz
                rw [← hfs] at fb
                have FB := Lib.hid fb
                have HOK := Lib.hid hok
                have HSZ := Lib.hid hsz
                have HFS := Lib.hid hfs
                clear hok hsz fb hfs
                refine FB.out.mono ?_
                rintro e w7 ⟨b7, rfl, _, ho7, hl7⟩
                have hq7 : ∀ l, fs = l → Rd w7 (.slice (some ⟨b7, 0, none⟩) fs.length fs.length) l := by rintro l rfl; exact Rd.of_obj ho7 (Nat.le_refl _)
                have HP := Lib.hid (Parse_ok _ ⟨dst, src, vlan, ty, bs⟩ HOK.out w7 (hq7 _ HFS.out) HSZ.out)
                have HX7 := Lib.hid (HX2.out.below hl7)
                have HR7 := Lib.hid (HR2.out.below hl7)
                have HB7 := Lib.hid (below_to HB2.out hl7 HB2.out.size)
                clear FB HX2 HR2 HB2 ho7 hl7 hq7
                go_upto_region 16 with fail
                go_cut [14, 15] from 6 to 111 (fun s14 s15 wx => ∃ gx b8, s14 = .pointer (some ⟨gx, 0, none⟩) ∧ s15 = .nilIface ∧ BackEnd w dst src vlan ty bs A c gx b8 wx)
                case first =>
                  go_wp2_with fail
                  refine HP.out.mono ?_
                  rintro e w8 ⟨b8, he, _, ho8, hl8⟩
                  rw [Frm.val_lit] at he
                  simp only at he
                  subst he
                  have hn : Below w8.heap.size w8 (w8.alloc (Frm.obj ⟨dst, src, vlan, ty, bs⟩ (.slice (some ⟨b8, 0, none⟩) bs.length bs.length))) := below_al (Below.refl _ _) _
                  have hl9 := below_to hl8 hn hl8.size
                  have HE := Lib.hid (show BackEnd w dst src vlan ty bs A c w8.heap.size b8 (w8.alloc (Frm.obj ⟨dst, src, vlan, ty, bs⟩ (.slice (some ⟨b8, 0, none⟩) bs.length bs.length))) from
                    ⟨HX7.out.below hl9, HR7.out.below hl9, BoxAt.new w8 ⟨dst, src, vlan, ty, bs⟩ (.slice (some ⟨b8, 0, none⟩) bs.length bs.length), (show Rd w8 _ bs from Rd.of_obj ho8 (Nat.le_refl _)).below hn, below_to HB7.out hl9 HB7.out.size⟩)
                  clear HP HX7 HR7 HB7 ho8 hl8 hn hl9
                  unfold Frm.obj at HE
                  simp only at HE
                  go_wp2_with fail
                  go_meet
                  exact ⟨_, _, rfl, rfl, HE.out⟩
                obtain ⟨gx, b8, rfl, rfl, hst⟩ := hcut
                generalize wc = Y at *
                have HX9 := Lib.hid hst.boxA
                have HR9 := Lib.hid hst.rowA
                have HY9 := Lib.hid hst.boxB
                have HQ9 := Lib.hid hst.rowB
                have HB9 := Lib.hid hst.old
                clear hst HP HX7 HR7 HB7
                go_upto_region 17 with fail
                obtain ⟨t1, ht1⟩ : ∃ t, txt dst.bs = t := ⟨_, rfl⟩
                obtain ⟨t2, ht2⟩ : ∃ t, txt src.bs = t := ⟨_, rfl⟩
                obtain ⟨t3, ht3⟩ : ∃ t, txt bs = t := ⟨_, rfl⟩
                have hrv : Value.agg #[.string t1, .string t2, .int .i64 vlan, .int .u32 ty, .string t3] = .agg (refRow ⟨dst, src, vlan, ty, bs⟩) := by rw [← ht1, ← ht2, ← ht3]; rfl
                have e1 := fun W => ref_same t1 t2 t3 vlan (ty : Int) W
                obtain ⟨y0, y1, y2, y3, y4, y5, y6, y7, y8, y9, y10, y11, y12, y13, KS, X1, X2⟩ := end_letters _ hrv hty0 HX9.out HY9.out HR9.out HQ9.out
                have HK := Lib.hid KS
                have HX1 := Lib.hid (X1 Y.drew (below_drew Y))
                have HX2 := Lib.hid X2
                clear hrv X1 X2 ht1 ht2 ht3 KS
                go_region_held_law (fun W => W.cell? ⟨gx, 0, none⟩ = some y0 ∧ W.cell? ⟨gx, 1, none⟩ = some y1 ∧ W.cell? ⟨gx, 2, none⟩ = some y2 ∧ W.cell? ⟨gx, 3, none⟩ = some y3 ∧ W.cell? ⟨gx, 4, none⟩ = some y4 ∧ W.cell? ⟨gx, 5, none⟩ = some y5 ∧ W.cell? ⟨gx, 6, none⟩ = some y6 ∧ W.cell? ⟨gx, 7, none⟩ = some y7 ∧ W.cell? ⟨gx, 8, none⟩ = some y8 ∧ W.cell? ⟨gx, 9, none⟩ = some y9 ∧ W.cell? ⟨gx, 10, none⟩ = some y10 ∧ W.cell? ⟨gx, 11, none⟩ = some y11 ∧ W.cell? ⟨gx, 12, none⟩ = some y12 ∧ W.cell? ⟨gx, 13, none⟩ = some y13 ∧ W.cell? ⟨gx, 14, none⟩ = some (.slice (some ⟨b8, 0, none⟩) bs.length bs.length) ∧ W.cell? ⟨w.heap.size, 0, none⟩ = some y0 ∧ W.cell? ⟨w.heap.size, 1, none⟩ = some y1 ∧ W.cell? ⟨w.heap.size, 2, none⟩ = some y2 ∧ W.cell? ⟨w.heap.size, 3, none⟩ = some y3 ∧ W.cell? ⟨w.heap.size, 4, none⟩ = some y4 ∧ W.cell? ⟨w.heap.size, 5, none⟩ = some y5 ∧ W.cell? ⟨w.heap.size, 6, none⟩ = some y6 ∧ W.cell? ⟨w.heap.size, 7, none⟩ = some y7 ∧ W.cell? ⟨w.heap.size, 8, none⟩ = some y8 ∧ W.cell? ⟨w.heap.size, 9, none⟩ = some y9 ∧ W.cell? ⟨w.heap.size, 10, none⟩ = some y10 ∧ W.cell? ⟨w.heap.size, 11, none⟩ = some y11 ∧ W.cell? ⟨w.heap.size, 12, none⟩ = some y12 ∧ W.cell? ⟨w.heap.size, 13, none⟩ = some y13 ∧ W.cell? ⟨w.heap.size, 14, none⟩ = some (.slice A bs.length c))
                  (first | assumption | exact HK.out _ (below_drew Y) | exact HK.out _ (HL11.out) | exact HK.out _ (HL10.out))
                  (first
                    | (go_at_call 14; (with_reducible refine HX1.out.mono ?_); rintro e w10 ⟨rfl, hl10⟩; (have HL10 := Lib.hid ((below_drew Y).trans hl10)); (have HX3 := Lib.hid (HX2.out w10 HL10.out)); clear hl10)
                    | (go_at_call 14; (with_reducible refine HX3.out.mono ?_); rintro e w11 ⟨rfl, hl11⟩; (have HL11 := Lib.hid (below_to HL10.out hl11 HL10.out.size)); clear hl11))
                all_goals (go_wp2_with fail)
                all_goals go_ret
                all_goals exact ⟨rfl, below_to HB9.out HL11.out HB9.out.size⟩
            · as_aux_lemma =>
                have FB := Lib.hid (fBytes_big ⟨dst, src, vlan, ty, bs⟩ hok A bs.length c (by have := Frm.bs_len ⟨dst, src, vlan, ty, bs⟩; simp only at this; omega) (by omega) X)
                refine FB.out.mono ?_
                rintro e w7 ⟨b7, rfl, _, hl7⟩
                have HB7 := Lib.hid (below_to HB2.out hl7 HB2.out.size)
                clear FB hl7 hok hsz
                go_wp2_with fail
                go_ret
                exact ⟨rfl, HB7.out⟩
          · as_aux_lemma =>
              have FB := Lib.hid (fBytes_arg ⟨dst, src, vlan, ty, bs⟩ hbad A bs.length c X)
              refine FB.out.mono ?_
              rintro e w7 ⟨b7, rfl, _, hl7⟩
              have HB7 := Lib.hid (below_to HB2.out hl7 HB2.out.size)
              clear FB hl7 hbad
              go_wp2_with fail
              go_ret
              exact ⟨rfl, HB7.out⟩
  · as_aux_lemma =>
      have h : 9000 < ls.length := by omega
      have h0 := h
      have HP := Lib.hid (Parse_big _ ls w1 HL1.out h)
      clear h0
      refine HP.out.mono ?_
      rintro e w2 ⟨b2, he, _, hl2⟩
      have he' : e = .returned (.tuple #[.agg #[.int .u8 0, .int .u8 0, .int .u8 0, .int .u8 0, .int .u8 0, .int .u8 0, .int .u8 0, .int .u8 0, .int .u8 0, .int .u8 0, .int .u8 0, .int .u8 0, .int .i64 0, .int .u16 0, .slice none 0 0], .iface 86 (.pointer (some ⟨b2, 0, none⟩))]) := he
      subst he'
      have hl3 := below_to hl2 (below_al (Below.refl _ _) noObj) hl2.size
      have HX := Lib.hid (HX1.out.below hl3)
      have HL3 := Lib.hid (HL1.out.below hl3)
      clear HP hl2 hl3 HX1 HL1 he
      go_upto_region 4 with fail
      generalize hW : w2.alloc noObj = W at HX HL3
      unfold noObj at hW
      rw [hW]
      clear hW
      obtain ⟨g, o, u, v, eA, hu, hv, k12, k13⟩ := two_at HL3.out (by omega)
      subst eA
      go_cut [8] (fun s8 wx => (∃ T : Bool, s8 = .bool T) ∧ W = wx)
      case first =>
        by_cases a : u.toNat = 129
        · have t1 : ((u.toNat : Int) == 129) = true := by simp; omega
          by_cases b : v.toNat = 0
          · have t2 : ((v.toNat : Int) == 0) = true := by simp; omega
            go_wp2_with fail
            go_meet
            exact ⟨⟨_, rfl⟩, rfl⟩
          · have t2 : ((v.toNat : Int) == 0) = false := by simp; omega
            go_wp2_with fail
            go_meet
            exact ⟨⟨_, rfl⟩, rfl⟩
        · have t1 : ((u.toNat : Int) == 129) = false := by simp; omega
          go_wp2_with fail
          go_meet
          exact ⟨⟨_, rfl⟩, rfl⟩
      obtain ⟨⟨T, rfl⟩, rfl⟩ := hcut
      clear k12 k13 hu hv HL3
      go_upto_region 12 with fail
      go_cut [3, 5] from 0 to 111 (fun s3 s5 wx => s3 = .pointer (some ⟨w.heap.size, 0, none⟩) ∧ s5 = .bool true ∧ BackSec w dst src vlan ty bs A c wx)
      case first =>
        obtain ⟨c0, c1, c2, c3, c4, c5, c6, c7, c8, c9, c10, c11, c12, c13, c14⟩ := HX.out.box.cells
        clear c0 c1 c2 c3 c4 c5 c6 c7 c8 c9 c10 c11 c12 c13
        have z14 := HX.out.box.free 14
        have hmin := HMIN.out
        go_wp2_with fail
        go_meet
        exact ⟨rfl, rfl, (HX.out.box.set14 (.slice A bs.length c)).bytes bs, (HR.out.below HX.out.old).over14 HX.out.box _, HX.out.old.setCell (Nat.le_refl _) _⟩
      obtain ⟨rfl, rfl, hst⟩ := hcut
      generalize wc = X at *
      have HX2 := Lib.hid hst.box
      have HR2 := Lib.hid hst.row
      have HB2 := Lib.hid hst.old
      clear hst HX HR HMIN
      obtain ⟨c0, c1, c2, c3, c4, c5, c6, c7, c8, c9, c10, c11, c12, c13, c14⟩ := HX2.out.cells
      simp only at c0 c1 c2 c3 c4 c5 c6 c7 c8 c9 c10 c11 c12 c13 c14
      go_wp2_with fail
      clear c0 c1 c2 c3 c4 c5 c6 c7 c8 c9 c10 c11 c12 c13 c14
      rcases Frm.ok_or_bad ⟨dst, src, vlan, ty, bs⟩ hty0 with hok | hbad
      · by_cases hsz : (Frm.bs ⟨dst, src, vlan, ty, bs⟩).length ≤ 9000
        · as_aux_lemma =>
            obtain ⟨fs, hfs⟩ : ∃ fs, fs = Frm.bs ⟨dst, src, vlan, ty, bs⟩ := ⟨_, rfl⟩
            have fb := fBytes_ok ⟨dst, src, vlan, ty, bs⟩ hok A c X HR2.out hsz
            rw [← hfs] at fb
            have FB := Lib.hid fb
            have HOK := Lib.hid hok
            have HSZ := Lib.hid hsz
            have HFS := Lib.hid hfs
            clear hok hsz fb hfs
            refine FB.out.mono ?_
            rintro e w7 ⟨b7, rfl, _, ho7, hl7⟩
            have hq7 : ∀ l, fs = l → Rd w7 (.slice (some ⟨b7, 0, none⟩) fs.length fs.length) l := by rintro l rfl; exact Rd.of_obj ho7 (Nat.le_refl _)
            have HP := Lib.hid (Parse_ok _ ⟨dst, src, vlan, ty, bs⟩ HOK.out w7 (hq7 _ HFS.out) HSZ.out)
            have HX7 := Lib.hid (HX2.out.below hl7)
            have HR7 := Lib.hid (HR2.out.below hl7)
            have HB7 := Lib.hid (below_to HB2.out hl7 HB2.out.size)
            clear FB HX2 HR2 HB2 ho7 hl7 hq7
            go_upto_region 16 with fail
            go_cut [14, 15] from 6 to 111 (fun s14 s15 wx => ∃ gx b8, s14 = .pointer (some ⟨gx, 0, none⟩) ∧ s15 = .nilIface ∧ BackEnd w dst src vlan ty bs A c gx b8 wx)
            case first =>
              go_wp2_with fail
              refine HP.out.mono ?_
              rintro e w8 ⟨b8, he, _, ho8, hl8⟩
              rw [Frm.val_lit] at he
              simp only at he
              subst he
              have hn : Below w8.heap.size w8 (w8.alloc (Frm.obj ⟨dst, src, vlan, ty, bs⟩ (.slice (some ⟨b8, 0, none⟩) bs.length bs.length))) := below_al (Below.refl _ _) _
              have hl9 := below_to hl8 hn hl8.size
              have HE := Lib.hid (show BackEnd w dst src vlan ty bs A c w8.heap.size b8 (w8.alloc (Frm.obj ⟨dst, src, vlan, ty, bs⟩ (.slice (some ⟨b8, 0, none⟩) bs.length bs.length))) from
                ⟨HX7.out.below hl9, HR7.out.below hl9, BoxAt.new w8 ⟨dst, src, vlan, ty, bs⟩ (.slice (some ⟨b8, 0, none⟩) bs.length bs.length), (show Rd w8 _ bs from Rd.of_obj ho8 (Nat.le_refl _)).below hn, below_to HB7.out hl9 HB7.out.size⟩)
              clear HP HX7 HR7 HB7 ho8 hl8 hn hl9
              unfold Frm.obj at HE
              simp only at HE
              go_wp2_with fail
              go_meet
              exact ⟨_, _, rfl, rfl, HE.out⟩
            obtain ⟨gx, b8, rfl, rfl, hst⟩ := hcut
            generalize wc = Y at *
            have HX9 := Lib.hid hst.boxA
            have HR9 := Lib.hid hst.rowA
            have HY9 := Lib.hid hst.boxB
            have HQ9 := Lib.hid hst.rowB
            have HB9 := Lib.hid hst.old
            clear hst HP HX7 HR7 HB7
            go_upto_region 17 with fail
            obtain ⟨t1, ht1⟩ : ∃ t, txt dst.bs = t := ⟨_, rfl⟩
            obtain ⟨t2, ht2⟩ : ∃ t, txt src.bs = t := ⟨_, rfl⟩
            obtain ⟨t3, ht3⟩ : ∃ t, txt bs = t := ⟨_, rfl⟩
            have hrv : Value.agg #[.string t1, .string t2, .int .i64 vlan, .int .u32 ty, .string t3] = .agg (refRow ⟨dst, src, vlan, ty, bs⟩) := by rw [← ht1, ← ht2, ← ht3]; rfl
            have e1 := fun W => ref_same t1 t2 t3 vlan (ty : Int) W
            obtain ⟨y0, y1, y2, y3, y4, y5, y6, y7, y8, y9, y10, y11, y12, y13, KS, X1, X2⟩ := end_letters _ hrv hty0 HX9.out HY9.out HR9.out HQ9.out
            have HK := Lib.hid KS
            have HX1 := Lib.hid (X1 Y.drew (below_drew Y))
            have HX2 := Lib.hid X2
            clear hrv X1 X2 ht1 ht2 ht3 KS
            go_region_held_law (fun W => W.cell? ⟨gx, 0, none⟩ = some y0 ∧ W.cell? ⟨gx, 1, none⟩ = some y1 ∧ W.cell? ⟨gx, 2, none⟩ = some y2 ∧ W.cell? ⟨gx, 3, none⟩ = some y3 ∧ W.cell? ⟨gx, 4, none⟩ = some y4 ∧ W.cell? ⟨gx, 5, none⟩ = some y5 ∧ W.cell? ⟨gx, 6, none⟩ = some y6 ∧ W.cell? ⟨gx, 7, none⟩ = some y7 ∧ W.cell? ⟨gx, 8, none⟩ = some y8 ∧ W.cell? ⟨gx, 9, none⟩ = some y9 ∧ W.cell? ⟨gx, 10, none⟩ = some y10 ∧ W.cell? ⟨gx, 11, none⟩ = some y11 ∧ W.cell? ⟨gx, 12, none⟩ = some y12 ∧ W.cell? ⟨gx, 13, none⟩ = some y13 ∧ W.cell? ⟨gx, 14, none⟩ = some (.slice (some ⟨b8, 0, none⟩) bs.length bs.length) ∧ W.cell? ⟨w.heap.size, 0, none⟩ = some y0 ∧ W.cell? ⟨w.heap.size, 1, none⟩ = some y1 ∧ W.cell? ⟨w.heap.size, 2, none⟩ = some y2 ∧ W.cell? ⟨w.heap.size, 3, none⟩ = some y3 ∧ W.cell? ⟨w.heap.size, 4, none⟩ = some y4 ∧ W.cell? ⟨w.heap.size, 5, none⟩ = some y5 ∧ W.cell? ⟨w.heap.size, 6, none⟩ = some y6 ∧ W.cell? ⟨w.heap.size, 7, none⟩ = some y7 ∧ W.cell? ⟨w.heap.size, 8, none⟩ = some y8 ∧ W.cell? ⟨w.heap.size, 9, none⟩ = some y9 ∧ W.cell? ⟨w.heap.size, 10, none⟩ = some y10 ∧ W.cell? ⟨w.heap.size, 11, none⟩ = some y11 ∧ W.cell? ⟨w.heap.size, 12, none⟩ = some y12 ∧ W.cell? ⟨w.heap.size, 13, none⟩ = some y13 ∧ W.cell? ⟨w.heap.size, 14, none⟩ = some (.slice A bs.length c))
              (first | assumption | exact HK.out _ (below_drew Y) | exact HK.out _ (HL11.out) | exact HK.out _ (HL10.out))
              (first
                | (go_at_call 14; (with_reducible refine HX1.out.mono ?_); rintro e w10 ⟨rfl, hl10⟩; (have HL10 := Lib.hid ((below_drew Y).trans hl10)); (have HX3 := Lib.hid (HX2.out w10 HL10.out)); clear hl10)
                | (go_at_call 14; (with_reducible refine HX3.out.mono ?_); rintro e w11 ⟨rfl, hl11⟩; (have HL11 := Lib.hid (below_to HL10.out hl11 HL10.out.size)); clear hl11))
            all_goals (go_wp2_with fail)
            all_goals go_ret
            all_goals exact ⟨rfl, below_to HB9.out HL11.out HB9.out.size⟩
        · as_aux_lemma =>
            have FB := Lib.hid (fBytes_big ⟨dst, src, vlan, ty, bs⟩ hok A bs.length c (by have := Frm.bs_len ⟨dst, src, vlan, ty, bs⟩; simp only at this; omega) (by omega) X)
            refine FB.out.mono ?_
            rintro e w7 ⟨b7, rfl, _, hl7⟩
            have HB7 := Lib.hid (below_to HB2.out hl7 HB2.out.size)
            clear FB hl7 hok hsz
            go_wp2_with fail
            go_ret
            exact ⟨rfl, HB7.out⟩
      · as_aux_lemma =>
          have FB := Lib.hid (fBytes_arg ⟨dst, src, vlan, ty, bs⟩ hbad A bs.length c X)
          refine FB.out.mono ?_
          rintro e w7 ⟨b7, rfl, _, hl7⟩
          have HB7 := Lib.hid (below_to HB2.out hl7 HB2.out.size)
          clear FB hl7 hbad
          go_wp2_with fail
          go_ret
          exact ⟨rfl, HB7.out⟩
end Go.Proofs.YthgfjnibgijfjaaDoor
