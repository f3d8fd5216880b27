/-
  What is proved: the document's Bytes of layer 3 by contract.
  Conditions: the frame's bytes are fewer than 2^40.
-/
import Derived.Test.YtifjelinojndoaaDoorERef
import Derived.Deep.RegionLaw
namespace Go.Proofs.YtifjelinojndoaaDoor
open Go.RowKit

set_option maxHeartbeats 1000000 in
theorem refBytes_bad (f : Frm) (hf : f.Bad) (w : World) :
    Calls Tryd.prog 10 #[.agg (refRow f)] w fun e w' => e = .returned (.tuple #[.string ⟨#[]⟩, .string ether1]) ∧ Below w.heap.size w w' := by
  obtain ⟨dst, src, vlan, ty, b⟩ := f
  obtain ⟨ht, hf⟩ := hf
  simp only at ht hf
  unfold refRow
  simp only
  generalize txt dst.bs = t1 at *
  generalize txt src.bs = t2 at *
  generalize txt b = t3 at *
  have HB := Lib.hid (below_al (Below.refl w.heap.size w) (.cells #[.string t1, .string t2, .int .i64 vlan, .int .u32 ty, .string t3] 35))
  rcases hf with ⟨rfl, rfl⟩ | h1 | h1
  · go_enter Tryd.func10, Tryd.ntmps10
    go_wp2_with fail
    go_ret2
    exact ⟨rfl, HB.out⟩
  · go_enter Tryd.func10, Tryd.ntmps10
    go_wp2_with fail
    go_ret2
    exact ⟨rfl, HB.out⟩
  · have h2 : ¬ vlan < -1 := by omega
    go_enter Tryd.func10, Tryd.ntmps10
    go_wp2_with fail
    go_ret2
    exact ⟨rfl, HB.out⟩

set_option maxRecDepth 100000 in
set_option maxHeartbeats 2000000 in
theorem refBytes_plain (dst src : M6) (ty : Nat) (b : List UInt8) (hty : ty < 65536) (h8 : ty ≠ 33024) (hn : (Frm.bs ⟨dst, src, (-1), ty, b⟩).length ≤ 9000) (w : World) :
    Calls Tryd.prog 10 #[.agg #[.string (txt dst.bs), .string (txt src.bs), .int .i64 (-1), .int .u32 ty, .string (txt b)]] w fun e w' => e = .returned (.tuple #[.string (txt (Frm.bs ⟨dst, src, (-1), ty, b⟩)), .string ⟨#[]⟩]) ∧ Below w.heap.size w w' := by
  have HA := Lib.hid (RefAt.new w (txt dst.bs) (txt src.bs) (-1) ty (txt b))
  have HB := Lib.hid (below_al (Below.refl w.heap.size w) (.cells #[.string (txt dst.bs), .string (txt src.bs), .int .i64 (-1), .int .u32 ty, .string (txt b)] 35))
  have hl := Frm.bs_len ⟨dst, src, (-1), ty, b⟩
  rw [show Frm.head ⟨dst, src, -1, ty, b⟩ = 14 from rfl] at hl
  simp only at hl
  have hbs : Frm.bs ⟨dst, src, -1, ty, b⟩ = (dst.bs ++ src.bs) ++ be2 ty ++ b := by
    unfold Frm.bs Frm.tail tagBs
    simp only [if_true, List.nil_append, List.append_assoc]
  have hsz : (txt (Frm.bs ⟨dst, src, (-1), ty, b⟩)).size = (Frm.bs ⟨dst, src, (-1), ty, b⟩).length := txt_size _
  have HS : Hid ((txt (Frm.bs ⟨dst, src, (-1), ty, b⟩)).size ≤ 9000) := by show _ ≤ _; rw [hsz]; exact hn
  have e1 : txt dst.bs ++ txt src.bs = txt (dst.bs ++ src.bs) := txt_append _ _
  have e4 : txt (dst.bs ++ src.bs) ++ txt (be2 ty) = txt ((dst.bs ++ src.bs) ++ be2 ty) := txt_append _ _
  have e5 : txt ((dst.bs ++ src.bs) ++ be2 ty) ++ txt b = txt (Frm.bs ⟨dst, src, -1, ty, b⟩) := by rw [hbs]; exact txt_append _ _
  have l3 : (txt ((dst.bs ++ src.bs) ++ be2 ty)).size = 14 := by rw [txt_size]; rfl
  have h9 : ((ty : Int) == 33024) = false := by simp; omega
  have l0 : (txt (dst.bs ++ src.bs)).size = 12 := by rw [txt_size]; rfl
  have la : (txt dst.bs).size = 6 := rfl
  have lb : (txt src.bs).size = 6 := rfl
  have lt : (txt (be2 ty)).size = 2 := rfl
  have lz : (txt b).size ≤ 1099511627776 := by rw [txt_size]; omega
  have lc : ¬ 9223372036854775807 < 14 + (txt b).size := by omega
  have HT := Lib.hid (refText2 ty)
  clear hl hbs hsz hn h8
  generalize txt (Frm.bs ⟨dst, src, (-1), ty, b⟩) = S at *
  generalize txt ((dst.bs ++ src.bs) ++ be2 ty) = s4 at *
  generalize txt (dst.bs ++ src.bs) = s1 at *
  generalize txt (be2 ty) = tt at *
  generalize txt dst.bs = t1 at *
  generalize txt src.bs = t2 at *
  generalize txt b = t3 at *
  go_enter Tryd.func10, Tryd.ntmps10
  go_upto_region 6 with fail
  generalize w.alloc (.cells #[.string t1, .string t2, .int .i64 (-1), .int .u32 ty, .string t3] 35) = W at *
  have HA1 := HA
  have HB1 := HB
  clear HA HB
  have k3 := HA1.out.cells.2.2.2.1
  have k4 := HA1.out.cells.2.2.2.2
  have X1 := Lib.hid (HT.out W.drew (by omega))
  go_region_law (go_simp; go_at_call 22; (with_reducible refine X1.out.mono ?_); rintro e w2 ⟨rfl, hl2⟩; (have m4 := ((show RefAt W.drew _ _ _ _ _ _ from HA1.out).below hl2).cells.2.2.2.2); (have HB2 := Lib.hid (below_to (below_drw HB1.out) hl2 HB1.out.size)); clear hl2)
  all_goals
    have hS := HS.out
    go_wp2_with fail
    go_ret2
    exact ⟨rfl, HB2.out⟩
set_option maxRecDepth 100000 in
set_option maxHeartbeats 2000000 in
theorem refBytes_plainBig (dst src : M6) (ty : Nat) (b : List UInt8) (hty : ty < 65536) (h8 : ty ≠ 33024) (hn : 9000 < (Frm.bs ⟨dst, src, (-1), ty, b⟩).length) (hb : b.length ≤ 1099511627776) (w : World) :
    Calls Tryd.prog 10 #[.agg #[.string (txt dst.bs), .string (txt src.bs), .int .i64 (-1), .int .u32 ty, .string (txt b)]] w fun e w' => e = .returned (.tuple #[.string ⟨#[]⟩, .string ether7]) ∧ Below w.heap.size w w' := by
  have HA := Lib.hid (RefAt.new w (txt dst.bs) (txt src.bs) (-1) ty (txt b))
  have HB := Lib.hid (below_al (Below.refl w.heap.size w) (.cells #[.string (txt dst.bs), .string (txt src.bs), .int .i64 (-1), .int .u32 ty, .string (txt b)] 35))
  have hl := Frm.bs_len ⟨dst, src, (-1), ty, b⟩
  rw [show Frm.head ⟨dst, src, -1, ty, b⟩ = 14 from rfl] at hl
  simp only at hl
  have hbs : Frm.bs ⟨dst, src, -1, ty, b⟩ = (dst.bs ++ src.bs) ++ be2 ty ++ b := by
    unfold Frm.bs Frm.tail tagBs
    simp only [if_true, List.nil_append, List.append_assoc]
  have hsz : (txt (Frm.bs ⟨dst, src, (-1), ty, b⟩)).size = (Frm.bs ⟨dst, src, (-1), ty, b⟩).length := txt_size _
  have HS : Hid (9000 < (txt (Frm.bs ⟨dst, src, (-1), ty, b⟩)).size) := by show _ < _; rw [hsz]; exact hn
  have e1 : txt dst.bs ++ txt src.bs = txt (dst.bs ++ src.bs) := txt_append _ _
  have e4 : txt (dst.bs ++ src.bs) ++ txt (be2 ty) = txt ((dst.bs ++ src.bs) ++ be2 ty) := txt_append _ _
  have e5 : txt ((dst.bs ++ src.bs) ++ be2 ty) ++ txt b = txt (Frm.bs ⟨dst, src, -1, ty, b⟩) := by rw [hbs]; exact txt_append _ _
  have l3 : (txt ((dst.bs ++ src.bs) ++ be2 ty)).size = 14 := by rw [txt_size]; rfl
  have h9 : ((ty : Int) == 33024) = false := by simp; omega
  have l0 : (txt (dst.bs ++ src.bs)).size = 12 := by rw [txt_size]; rfl
  have la : (txt dst.bs).size = 6 := rfl
  have lb : (txt src.bs).size = 6 := rfl
  have lt : (txt (be2 ty)).size = 2 := rfl
  have lz : (txt b).size ≤ 1099511627776 := by rw [txt_size]; omega
  have lc : ¬ 9223372036854775807 < 14 + (txt b).size := by omega
  have HT := Lib.hid (refText2 ty)
  clear hl hbs hsz hn hb h8
  generalize txt (Frm.bs ⟨dst, src, (-1), ty, b⟩) = S at *
  generalize txt ((dst.bs ++ src.bs) ++ be2 ty) = s4 at *
  generalize txt (dst.bs ++ src.bs) = s1 at *
  generalize txt (be2 ty) = tt at *
  generalize txt dst.bs = t1 at *
  generalize txt src.bs = t2 at *
  generalize txt b = t3 at *
  go_enter Tryd.func10, Tryd.ntmps10
  go_upto_region 6 with fail
  generalize w.alloc (.cells #[.string t1, .string t2, .int .i64 (-1), .int .u32 ty, .string t3] 35) = W at *
  have HA1 := HA
  have HB1 := HB
  clear HA HB
  have k3 := HA1.out.cells.2.2.2.1
  have k4 := HA1.out.cells.2.2.2.2
  have X1 := Lib.hid (HT.out W.drew (by omega))
  go_region_law (go_simp; go_at_call 22; (with_reducible refine X1.out.mono ?_); rintro e w2 ⟨rfl, hl2⟩; (have m4 := ((show RefAt W.drew _ _ _ _ _ _ from HA1.out).below hl2).cells.2.2.2.2); (have HB2 := Lib.hid (below_to (below_drw HB1.out) hl2 HB1.out.size)); clear hl2)
  all_goals
    have hS := HS.out
    go_wp2_with fail
    go_ret2
    exact ⟨rfl, HB2.out⟩
set_option maxRecDepth 100000 in
set_option maxHeartbeats 2000000 in
theorem refBytes_tag (dst src : M6) (v : Nat) (hv : v < 65536) (ty : Nat) (b : List UInt8) (hty : ty < 65536) (hn : (Frm.bs ⟨dst, src, (v : Int), ty, b⟩).length ≤ 9000) (w : World) :
    Calls Tryd.prog 10 #[.agg #[.string (txt dst.bs), .string (txt src.bs), .int .i64 (v : Int), .int .u32 ty, .string (txt b)]] w fun e w' => e = .returned (.tuple #[.string (txt (Frm.bs ⟨dst, src, (v : Int), ty, b⟩)), .string ⟨#[]⟩]) ∧ Below w.heap.size w w' := by
  have HA := Lib.hid (RefAt.new w (txt dst.bs) (txt src.bs) (v : Int) ty (txt b))
  have HB := Lib.hid (below_al (Below.refl w.heap.size w) (.cells #[.string (txt dst.bs), .string (txt src.bs), .int .i64 (v : Int), .int .u32 ty, .string (txt b)] 35))
  have hl := Frm.bs_len ⟨dst, src, (v : Int), ty, b⟩
  rw [show Frm.head ⟨dst, src, v, ty, b⟩ = 18 by unfold Frm.head; rw [if_neg (by simp only; omega)]] at hl
  simp only at hl
  have hbs : Frm.bs ⟨dst, src, v, ty, b⟩ = (((dst.bs ++ src.bs) ++ [129, 0]) ++ be2 v) ++ be2 ty ++ b := by
    unfold Frm.bs Frm.tail tagBs
    simp only
    rw [if_neg (by omega), Int.toNat_natCast]
    simp only [List.append_assoc]
  have hsz : (txt (Frm.bs ⟨dst, src, (v : Int), ty, b⟩)).size = (Frm.bs ⟨dst, src, (v : Int), ty, b⟩).length := txt_size _
  have HS : Hid ((txt (Frm.bs ⟨dst, src, (v : Int), ty, b⟩)).size ≤ 9000) := by show _ ≤ _; rw [hsz]; exact hn
  have e1 : txt dst.bs ++ txt src.bs = txt (dst.bs ++ src.bs) := txt_append _ _
  have e2 : txt (dst.bs ++ src.bs) ++ ⟨#[129, 0]⟩ = txt ((dst.bs ++ src.bs) ++ [129, 0]) := txt_append _ [129, 0]
  have e3 : txt ((dst.bs ++ src.bs) ++ [129, 0]) ++ txt (be2 v) = txt (((dst.bs ++ src.bs) ++ [129, 0]) ++ be2 v) := txt_append _ _
  have e4 : txt (((dst.bs ++ src.bs) ++ [129, 0]) ++ be2 v) ++ txt (be2 ty) = txt ((((dst.bs ++ src.bs) ++ [129, 0]) ++ be2 v) ++ be2 ty) := txt_append _ _
  have e5 : txt ((((dst.bs ++ src.bs) ++ [129, 0]) ++ be2 v) ++ be2 ty) ++ txt b = txt (Frm.bs ⟨dst, src, v, ty, b⟩) := by rw [hbs]; exact txt_append _ _
  have l1 : (txt ((dst.bs ++ src.bs) ++ [129, 0])).size = 14 := by rw [txt_size]; rfl
  have l2 : (txt (((dst.bs ++ src.bs) ++ [129, 0]) ++ be2 v)).size = 16 := by rw [txt_size]; rfl
  have l3 : (txt ((((dst.bs ++ src.bs) ++ [129, 0]) ++ be2 v) ++ be2 ty)).size = 18 := by rw [txt_size]; rfl
  have lv : (txt (be2 v)).size = 2 := rfl
  have HV := Lib.hid (refText2 v)
  have hmod : IntKind.u32.wrap (v : Int) = (v : Int) := u32_fits _ (by omega) (by omega)
  have l0 : (txt (dst.bs ++ src.bs)).size = 12 := by rw [txt_size]; rfl
  have la : (txt dst.bs).size = 6 := rfl
  have lb : (txt src.bs).size = 6 := rfl
  have lt : (txt (be2 ty)).size = 2 := rfl
  have lz : (txt b).size ≤ 1099511627776 := by rw [txt_size]; omega
  have lc : ¬ 9223372036854775807 < 18 + (txt b).size := by omega
  have HT := Lib.hid (refText2 ty)
  clear hl hbs hsz hn
  generalize txt (Frm.bs ⟨dst, src, (v : Int), ty, b⟩) = S at *
  generalize txt ((((dst.bs ++ src.bs) ++ [129, 0]) ++ be2 v) ++ be2 ty) = s4 at *
  generalize txt (((dst.bs ++ src.bs) ++ [129, 0]) ++ be2 v) = s3 at *
  generalize txt ((dst.bs ++ src.bs) ++ [129, 0]) = s2 at *
  generalize txt (be2 v) = tv at *
  generalize txt (dst.bs ++ src.bs) = s1 at *
  generalize txt (be2 ty) = tt at *
  generalize txt dst.bs = t1 at *
  generalize txt src.bs = t2 at *
  generalize txt b = t3 at *
  go_enter Tryd.func10, Tryd.ntmps10
  go_wp2_with fail
  refine (HV.out _ (by omega)).mono ?_
  rintro e W ⟨rfl, hl⟩
  have HA1 := Lib.hid (HA.out.below hl)
  have HB1 := Lib.hid (below_to HB.out hl HB.out.size)
  clear hl HA HB
  go_upto_region 6 with fail
  have k3 := HA1.out.cells.2.2.2.1
  have k4 := HA1.out.cells.2.2.2.2
  have X1 := Lib.hid (HT.out W.drew (by omega))
  go_region_law (go_simp; go_at_call 22; (with_reducible refine X1.out.mono ?_); rintro e w2 ⟨rfl, hl2⟩; (have m4 := ((show RefAt W.drew _ _ _ _ _ _ from HA1.out).below hl2).cells.2.2.2.2); (have HB2 := Lib.hid (below_to (below_drw HB1.out) hl2 HB1.out.size)); clear hl2)
  all_goals
    have hS := HS.out
    go_wp2_with fail
    go_ret2
    exact ⟨rfl, HB2.out⟩
set_option maxRecDepth 100000 in
set_option maxHeartbeats 2000000 in
theorem refBytes_tagBig (dst src : M6) (v : Nat) (hv : v < 65536) (ty : Nat) (b : List UInt8) (hty : ty < 65536) (hn : 9000 < (Frm.bs ⟨dst, src, (v : Int), ty, b⟩).length) (hb : b.length ≤ 1099511627776) (w : World) :
    Calls Tryd.prog 10 #[.agg #[.string (txt dst.bs), .string (txt src.bs), .int .i64 (v : Int), .int .u32 ty, .string (txt b)]] w fun e w' => e = .returned (.tuple #[.string ⟨#[]⟩, .string ether7]) ∧ Below w.heap.size w w' := by
  have HA := Lib.hid (RefAt.new w (txt dst.bs) (txt src.bs) (v : Int) ty (txt b))
  have HB := Lib.hid (below_al (Below.refl w.heap.size w) (.cells #[.string (txt dst.bs), .string (txt src.bs), .int .i64 (v : Int), .int .u32 ty, .string (txt b)] 35))
  have hl := Frm.bs_len ⟨dst, src, (v : Int), ty, b⟩
  rw [show Frm.head ⟨dst, src, v, ty, b⟩ = 18 by unfold Frm.head; rw [if_neg (by simp only; omega)]] at hl
  simp only at hl
  have hbs : Frm.bs ⟨dst, src, v, ty, b⟩ = (((dst.bs ++ src.bs) ++ [129, 0]) ++ be2 v) ++ be2 ty ++ b := by
    unfold Frm.bs Frm.tail tagBs
    simp only
    rw [if_neg (by omega), Int.toNat_natCast]
    simp only [List.append_assoc]
  have hsz : (txt (Frm.bs ⟨dst, src, (v : Int), ty, b⟩)).size = (Frm.bs ⟨dst, src, (v : Int), ty, b⟩).length := txt_size _
  have HS : Hid (9000 < (txt (Frm.bs ⟨dst, src, (v : Int), ty, b⟩)).size) := by show _ < _; rw [hsz]; exact hn
  have e1 : txt dst.bs ++ txt src.bs = txt (dst.bs ++ src.bs) := txt_append _ _
  have e2 : txt (dst.bs ++ src.bs) ++ ⟨#[129, 0]⟩ = txt ((dst.bs ++ src.bs) ++ [129, 0]) := txt_append _ [129, 0]
  have e3 : txt ((dst.bs ++ src.bs) ++ [129, 0]) ++ txt (be2 v) = txt (((dst.bs ++ src.bs) ++ [129, 0]) ++ be2 v) := txt_append _ _
  have e4 : txt (((dst.bs ++ src.bs) ++ [129, 0]) ++ be2 v) ++ txt (be2 ty) = txt ((((dst.bs ++ src.bs) ++ [129, 0]) ++ be2 v) ++ be2 ty) := txt_append _ _
  have e5 : txt ((((dst.bs ++ src.bs) ++ [129, 0]) ++ be2 v) ++ be2 ty) ++ txt b = txt (Frm.bs ⟨dst, src, v, ty, b⟩) := by rw [hbs]; exact txt_append _ _
  have l1 : (txt ((dst.bs ++ src.bs) ++ [129, 0])).size = 14 := by rw [txt_size]; rfl
  have l2 : (txt (((dst.bs ++ src.bs) ++ [129, 0]) ++ be2 v)).size = 16 := by rw [txt_size]; rfl
  have l3 : (txt ((((dst.bs ++ src.bs) ++ [129, 0]) ++ be2 v) ++ be2 ty)).size = 18 := by rw [txt_size]; rfl
  have lv : (txt (be2 v)).size = 2 := rfl
  have HV := Lib.hid (refText2 v)
  have hmod : IntKind.u32.wrap (v : Int) = (v : Int) := u32_fits _ (by omega) (by omega)
  have l0 : (txt (dst.bs ++ src.bs)).size = 12 := by rw [txt_size]; rfl
  have la : (txt dst.bs).size = 6 := rfl
  have lb : (txt src.bs).size = 6 := rfl
  have lt : (txt (be2 ty)).size = 2 := rfl
  have lz : (txt b).size ≤ 1099511627776 := by rw [txt_size]; omega
  have lc : ¬ 9223372036854775807 < 18 + (txt b).size := by omega
  have HT := Lib.hid (refText2 ty)
  clear hl hbs hsz hn hb
  generalize txt (Frm.bs ⟨dst, src, (v : Int), ty, b⟩) = S at *
  generalize txt ((((dst.bs ++ src.bs) ++ [129, 0]) ++ be2 v) ++ be2 ty) = s4 at *
  generalize txt (((dst.bs ++ src.bs) ++ [129, 0]) ++ be2 v) = s3 at *
  generalize txt ((dst.bs ++ src.bs) ++ [129, 0]) = s2 at *
  generalize txt (be2 v) = tv at *
  generalize txt (dst.bs ++ src.bs) = s1 at *
  generalize txt (be2 ty) = tt at *
  generalize txt dst.bs = t1 at *
  generalize txt src.bs = t2 at *
  generalize txt b = t3 at *
  go_enter Tryd.func10, Tryd.ntmps10
  go_wp2_with fail
  refine (HV.out _ (by omega)).mono ?_
  rintro e W ⟨rfl, hl⟩
  have HA1 := Lib.hid (HA.out.below hl)
  have HB1 := Lib.hid (below_to HB.out hl HB.out.size)
  clear hl HA HB
  go_upto_region 6 with fail
  have k3 := HA1.out.cells.2.2.2.1
  have k4 := HA1.out.cells.2.2.2.2
  have X1 := Lib.hid (HT.out W.drew (by omega))
  go_region_law (go_simp; go_at_call 22; (with_reducible refine X1.out.mono ?_); rintro e w2 ⟨rfl, hl2⟩; (have m4 := ((show RefAt W.drew _ _ _ _ _ _ from HA1.out).below hl2).cells.2.2.2.2); (have HB2 := Lib.hid (below_to (below_drw HB1.out) hl2 HB1.out.size)); clear hl2)
  all_goals
    have hS := HS.out
    go_wp2_with fail
    go_ret2
    exact ⟨rfl, HB2.out⟩
/-- A frame that has bytes, by its size. -/
theorem refBytes_ok (f : Frm) (hf : f.Ok) (hn : f.bs.length ≤ 9000) (w : World) :
    Calls Tryd.prog 10 #[.agg (refRow f)] w fun e w' => e = .returned (.tuple #[.string (txt f.bs), .string ⟨#[]⟩]) ∧ Below w.heap.size w w' := by
  obtain ⟨dst, src, vlan, ty, b⟩ := f
  rcases hf.tag with ⟨h1, h2⟩ | ⟨h1, h2⟩
  · simp only at h1 h2
    subst h1
    exact refBytes_plain dst src ty b hf.ty h2 hn w
  · simp only at h1 h2
    obtain ⟨v, rfl⟩ : ∃ v : Nat, vlan = (v : Int) := ⟨vlan.toNat, by omega⟩
    exact refBytes_tag dst src v (by omega) ty b hf.ty hn w
theorem refBytes_big (f : Frm) (hf : f.Ok) (hn : 9000 < f.bs.length) (hb : f.b.length ≤ 1099511627776) (w : World) :
    Calls Tryd.prog 10 #[.agg (refRow f)] w fun e w' => e = .returned (.tuple #[.string ⟨#[]⟩, .string ether7]) ∧ Below w.heap.size w w' := by
  obtain ⟨dst, src, vlan, ty, b⟩ := f
  rcases hf.tag with ⟨h1, h2⟩ | ⟨h1, h2⟩
  · simp only at h1 h2
    subst h1
    exact refBytes_plainBig dst src ty b hf.ty h2 hn hb w
  · simp only at h1 h2
    obtain ⟨v, rfl⟩ : ∃ v : Nat, vlan = (v : Int) := ⟨vlan.toNat, by omega⟩
    exact refBytes_tagBig dst src v (by omega) ty b hf.ty hn hb w
end Go.Proofs.YtifjelinojndoaaDoor
