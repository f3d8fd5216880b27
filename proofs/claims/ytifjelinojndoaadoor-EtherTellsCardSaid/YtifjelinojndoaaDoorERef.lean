/-
  What is proved: the document's Parse of layer 3 by contract.
  Conditions: none of its own.
-/
import Derived.Test.YtifjelinojndoaaDoorESplit
import Derived.Test.YtifjelinojndoaaDoorRNum
namespace Go.Proofs.YtifjelinojndoaaDoor
open Go.RowKit

theorem txt_mid (bs : List UInt8) (a b : Nat) : (txt bs).extract a b = txt ((bs.drop a).take (b - a)) := by
  apply ByteArray.ext
  rw [ByteArray.data_extract]
  simp [txt, List.extract_eq_take_drop]
theorem txt_tail (bs : List UInt8) (n : Nat) : (txt bs).extract n (txt bs).size = txt (bs.drop n) := by
  rw [txt_mid, txt_size, List.take_of_length_le (by rw [List.length_drop]; omega)]
theorem txt_list (bs : List UInt8) : (txt bs).toList = bs := ByteArray.toList_mk bs
def ether7 : ByteArray := ⟨#[101, 116, 104, 101, 114, 58, 32, 101, 114, 114, 111, 114, 32, 55]⟩
def ether1 : ByteArray := ⟨#[101, 116, 104, 101, 114, 58, 32, 101, 114, 114, 111, 114, 32, 49]⟩
def etherShort : ByteArray := ⟨#[101, 116, 104, 101, 114, 58, 32, 111, 99, 116, 101, 116, 115, 58, 32, 101, 114, 114, 111, 114, 32, 50]⟩
def refNoVal : Value := .agg #[.string ⟨#[]⟩, .string ⟨#[]⟩, .int .i64 0, .int .u32 0, .string ⟨#[]⟩]

set_option maxHeartbeats 1000000 in
theorem refParse_big (l : List UInt8) (hl : 9000 < l.length) (w : World) :
    Calls Tryd.prog 6 #[.string (txt l)] w fun e w' => e = .returned (.tuple #[refNoVal, .string ether7]) ∧ Below w.heap.size w w' := by
  have h1 : 9000 < (txt l).size := by rw [txt_size]; exact hl
  generalize txt l = t at *
  clear hl
  go_enter Tryd.func6, Tryd.ntmps6
  go_wp2_with fail
  refine bodyPost_ret (v := .tuple #[refNoVal, .string ether7]) ?_ rfl ⟨rfl, below_al (Below.refl _ _) _⟩
  rw [results_cell_tmp rfl]
  go_simp
  exact ⟨rfl, rfl⟩
set_option maxHeartbeats 1000000 in
theorem refParse_short (l : List UInt8) (hl : l.length < 14 ∨ (14 ≤ l.length ∧ l.length < 18 ∧ l[12]? = some 0x81 ∧ l[13]? = some 0)) (w : World) :
    Calls Tryd.prog 6 #[.string (txt l)] w fun e w' => e = .returned (.tuple #[refNoVal, .string etherShort]) ∧ Below w.heap.size w w' := by
  rcases hl with hl | ⟨h14, h18, hu, hv⟩
  · have h1 : (txt l).size < 14 := by rw [txt_size]; exact hl
    generalize txt l = t at *
    clear hl
    go_enter Tryd.func6, Tryd.ntmps6
    go_wp2_with fail
    refine bodyPost_ret (v := .tuple #[refNoVal, .string etherShort]) ?_ rfl ⟨rfl, below_al (Below.refl _ _) _⟩
    rw [results_cell_tmp rfl]
    go_simp
    exact ⟨rfl, rfl⟩
  · have h1 : 14 ≤ (txt l).size := by rw [txt_size]; exact h14
    have h2 : (txt l).size < 18 := by rw [txt_size]; exact h18
    have e1 : (txt l).extract 12 14 = ⟨#[129, 0]⟩ := by
      rw [txt_mid]
      have h : (l.drop 12).take (14 - 12) = [129, 0] := by
        apply List.ext_getElem?
        intro i
        match i with
        | 0 => simpa using hu
        | 1 => simpa using hv
        | i + 2 => simp; omega
      rw [h]
      rfl
    generalize txt l = t at *
    clear h14 h18 hu hv
    go_enter Tryd.func6, Tryd.ntmps6
    go_wp2_with fail
    refine bodyPost_ret (v := .tuple #[refNoVal, .string etherShort]) ?_ rfl ⟨rfl, below_al (Below.refl _ _) _⟩
    rw [results_cell_tmp rfl]
    go_simp
    exact ⟨rfl, rfl⟩

theorem below_drw {B : Nat} {w W : World} (h : Below B w W) : Below B w W.drew := ⟨h.os, h.tape, h.output, h.size, h.block⟩
theorem below_al' {B : Nat} {w W : World} (h : Below B w W) (o : Obj) (hB : B ≤ W.heap.size) : Below B w (W.alloc o) := h.alloc hB o
/-- The document's frame in a block. -/
def RefAt (W : World) (F : Nat) (t1 t2 : ByteArray) (v n : Int) (t3 : ByteArray) : Prop := W.heap[F]? = some (.cells #[.string t1, .string t2, .int .i64 v, .int .u32 n, .string t3] 35)
section
variable {W W' : World} {F : Nat} {t1 t2 t3 : ByteArray} {v n : Int}
theorem RefAt.lt (h : RefAt W F t1 t2 v n t3) : F < W.heap.size := (Array.getElem?_eq_some_iff.1 h).1
theorem RefAt.below (h : RefAt W F t1 t2 v n t3) (hb : Below W.heap.size W W') : RefAt W' F t1 t2 v n t3 := (hb.block _ h.lt).trans h
theorem RefAt.cells (h : RefAt W F t1 t2 v n t3) : W.cell? ⟨F, 0, none⟩ = some (.string t1) ∧ W.cell? ⟨F, 1, none⟩ = some (.string t2) ∧ W.cell? ⟨F, 2, none⟩ = some (.int .i64 v) ∧ W.cell? ⟨F, 3, none⟩ = some (.int .u32 n) ∧ W.cell? ⟨F, 4, none⟩ = some (.string t3) := by
  refine ⟨?_, ?_, ?_, ?_, ?_⟩ <;> (rw [cell_of_row W F _ _ _ _ h]; rfl)
theorem RefAt.free (h : RefAt W F t1 t2 v n t3) (i : Nat) : W.frozen? ⟨F, i, none⟩ = false := by
  have h' : W.heap[F]? = some (.cells #[.string t1, .string t2, .int .i64 v, .int .u32 n, .string t3] 35) := h
  simp [World.frozen?, h']
theorem RefAt.set2 (h : RefAt W F t1 t2 v n t3) (z : Int) : RefAt (W.setCell ⟨F, 2, none⟩ (.int .i64 z)) F t1 t2 z n t3 := by
  have h' : W.heap[F]? = _ := h
  unfold RefAt
  rw [heap_set, h']
  rfl
theorem RefAt.set3 (h : RefAt W F t1 t2 v n t3) (z : Int) : RefAt (W.setCell ⟨F, 3, none⟩ (.int .u32 z)) F t1 t2 v z t3 := by
  have h' : W.heap[F]? = _ := h
  unfold RefAt
  rw [heap_set, h']
  rfl
theorem RefAt.set4 (h : RefAt W F t1 t2 v n t3) (z : ByteArray) : RefAt (W.setCell ⟨F, 4, none⟩ (.string z)) F t1 t2 v n z := by
  have h' : W.heap[F]? = _ := h
  unfold RefAt
  rw [heap_set, h']
  rfl
theorem RefAt.other (h : RefAt W F t1 t2 v n t3) {G : Nat} (hG : F ≠ G) (i : Nat) (x : Value) : RefAt (W.setCell ⟨G, i, none⟩ x) F t1 t2 v n t3 := by
  have h' : W.heap[F]? = _ := h
  unfold RefAt
  rw [← h']
  unfold World.setCell
  simp only [Array.getElem?_modify]
  rw [if_neg (by omega)]
theorem RefAt.new (w : World) (t1 t2 : ByteArray) (v n : Int) (t3 : ByteArray) : RefAt (w.alloc (.cells #[.string t1, .string t2, .int .i64 v, .int .u32 n, .string t3] 35)) w.heap.size t1 t2 v n t3 := heap_alloc_new w _
end
/-- The answer's block, and the frame's. -/
structure RefSt (w W : World) (R F : Nat) (t1 t2 : ByteArray) (v n : Int) (t3 : ByteArray) : Prop where
  r : RefAt W R ⟨#[]⟩ ⟨#[]⟩ 0 0 ⟨#[]⟩
  f : RefAt W F t1 t2 v n t3
  ne : R ≠ F
  old : Below w.heap.size w W
  rn : w.heap.size ≤ R
  fn : w.heap.size ≤ F
section
variable {w W : World} {R F : Nat} {t1 t2 t3 : ByteArray} {v n : Int}
theorem RefSt.set2 (h : RefSt w W R F t1 t2 v n t3) (z : Int) : RefSt w (W.setCell ⟨F, 2, none⟩ (.int .i64 z)) R F t1 t2 z n t3 := ⟨h.r.other h.ne 2 _, h.f.set2 z, h.ne, h.old.setCell h.fn _, h.rn, h.fn⟩
theorem RefSt.set3 (h : RefSt w W R F t1 t2 v n t3) (z : Int) : RefSt w (W.setCell ⟨F, 3, none⟩ (.int .u32 z)) R F t1 t2 v z t3 := ⟨h.r.other h.ne 3 _, h.f.set3 z, h.ne, h.old.setCell h.fn _, h.rn, h.fn⟩
theorem RefSt.set4 (h : RefSt w W R F t1 t2 v n t3) (z : ByteArray) : RefSt w (W.setCell ⟨F, 4, none⟩ (.string z)) R F t1 t2 v n z := ⟨h.r.other h.ne 4 _, h.f.set4 z, h.ne, h.old.setCell h.fn _, h.rn, h.fn⟩
end

set_option maxRecDepth 100000 in
set_option maxHeartbeats 2000000 in
theorem refParse_plain (f : Frm) (hf : f.Ok) (hv : f.vlan = -1) (hn : f.bs.length ≤ 9000) (w : World) :
    Calls Tryd.prog 6 #[.string (txt f.bs)] w fun e w' => e = .returned (.tuple #[.agg (refRow f), .string ⟨#[]⟩]) ∧ Below w.heap.size w w' := by
  obtain ⟨dst, src, vlan, ty, b⟩ := f
  simp only at hv
  subst hv
  have hty : ty < 65536 := hf.ty
  have hty2 : ty ≠ 33024 := by rcases hf.tag with h | h <;> simp only at h <;> omega
  have hl := Frm.bs_len ⟨dst, src, -1, ty, b⟩
  rw [show Frm.head ⟨dst, src, -1, ty, b⟩ = 14 from rfl] at hl
  simp only at hl
  have h1 : 14 ≤ (txt (Frm.bs ⟨dst, src, -1, ty, b⟩)).size := by rw [txt_size, hl]; omega
  have h2 : (txt (Frm.bs ⟨dst, src, -1, ty, b⟩)).size ≤ 9000 := by rw [txt_size]; exact hn
  have e0 : (txt (Frm.bs ⟨dst, src, -1, ty, b⟩)).extract 0 6 = txt dst.bs := by rw [txt_mid]; rfl
  have e1 : (txt (Frm.bs ⟨dst, src, -1, ty, b⟩)).extract 6 12 = txt src.bs := by rw [txt_mid]; rfl
  have e2 : (txt (Frm.bs ⟨dst, src, -1, ty, b⟩)).extract 12 14 = txt (be2 ty) := by rw [txt_mid]; rfl
  have e3 : (txt (Frm.bs ⟨dst, src, -1, ty, b⟩)).extract 12 (txt (Frm.bs ⟨dst, src, -1, ty, b⟩)).size = txt (be2 ty ++ b) := by rw [txt_tail]; rfl
  have e4 : (txt (be2 ty ++ b)).extract 0 2 = txt (be2 ty) := by rw [txt_mid]; rfl
  have e5 : (txt (be2 ty ++ b)).extract 2 (txt (be2 ty ++ b)).size = txt b := by rw [txt_tail]; rfl
  have h3 : 2 ≤ (txt (be2 ty ++ b)).size := by rw [txt_size, List.length_append, be2_len]; omega
  have q1 : ((txt (be2 ty)).toList == [129, 0]) = false := by
    rw [txt_list]
    have := be2_val ty hty
    by_cases h : be2 ty = [129, 0]
    · exfalso
      simp only [be2, List.cons.injEq, and_true] at h
      rw [h.1, h.2] at this
      apply hty2
      have h3 : ((129 : UInt8).toNat : Int) * 256 + (0 : UInt8).toNat = 33024 := by decide
      omega
    · simpa using h
  have HN := Lib.hid (refNum2 (UInt8.ofNat (ty / 256)) (UInt8.ofNat ty))
  have hnum : (UInt8.ofNat (ty / 256)).toNat * 256 + (UInt8.ofNat ty).toNat = ty := by have := be2_val ty hty; omega
  rw [hnum] at HN
  have HN2 : Hid (∀ w, Calls Tryd.prog 16 #[.string (txt (be2 ty))] w fun e w' => e = .returned (.int .u32 (ty : Int)) ∧ w = w') := HN
  have HR : Hid (refRow ⟨dst, src, -1, ty, b⟩ = #[.string (txt dst.bs), .string (txt src.bs), .int .i64 (-1), .int .u32 ty, .string (txt b)]) := rfl
  clear hf hl hn hty2 HN hnum
  generalize txt (Frm.bs ⟨dst, src, -1, ty, b⟩) = t at *
  generalize txt (be2 ty ++ b) = r at *
  generalize txt (be2 ty) = y at *
  generalize txt dst.bs = t1 at *
  generalize txt src.bs = t2 at *
  generalize txt b = t3 at *
  go_enter Tryd.func6, Tryd.ntmps6
  go_upto_region 5 with fail
  obtain ⟨W, hW⟩ : ∃ W, W = w.alloc (.cells #[.string ⟨#[]⟩, .string ⟨#[]⟩, .int .i64 0, .int .u32 0, .string ⟨#[]⟩] 35) := ⟨_, rfl⟩
  rw [← hW]
  have hlt : w.heap.size < W.heap.size := by rw [hW]; simp
  have HR0 : Hid (RefAt W w.heap.size ⟨#[]⟩ ⟨#[]⟩ 0 0 ⟨#[]⟩) := by show RefAt _ _ _ _ _ _ _; rw [hW]; exact RefAt.new w _ _ _ _ _
  have HB0 : Hid (Below w.heap.size w W) := by show Below _ _ _; rw [hW]; exact below_al (Below.refl _ _) _
  have HLT := Lib.hid hlt
  clear hW hlt
  go_cut [4] (fun s4 wx => s4 = .pointer (some ⟨W.heap.size, 0, none⟩) ∧ RefSt w wx w.heap.size W.heap.size t1 t2 (-1) 0 ⟨#[]⟩)
  case first =>
    have HF := Lib.hid (RefAt.new W t1 t2 (-1) 0 ⟨#[]⟩)
    go_region
    all_goals
      go_wp2_with fail
      go_meet
      exact ⟨rfl, ((HR0.out).below (below_al (Below.refl W.heap.size W) _)).below (below_drew _), (HF.out).below (below_drew _), Nat.ne_of_lt HLT.out, below_drw (below_al' HB0.out _ (Nat.le_of_lt HLT.out)), Nat.le_refl _, Nat.le_of_lt HLT.out⟩
  obtain ⟨rfl, hs⟩ := hcut
  generalize W.heap.size = F at *
  have H1 := Lib.hid hs
  clear hs HR0 HB0 HLT
  go_wp2_with fail
  refine (HN2.out _).mono ?_
  rintro e w' ⟨rfl, rfl⟩
  have k3 := H1.out.f.cells.2.2.2.1
  have z3 := H1.out.f.free 3
  go_upto_region 11 with fail
  clear k3 z3
  have H2 := Lib.hid (H1.out.set3 (ty : Int))
  clear H1
  generalize wc.setCell ⟨F, 3, none⟩ (.int .u32 ty) = W2 at *
  have k4 := H2.out.f.cells.2.2.2.2
  have z4 := H2.out.f.free 4
  go_upto_region 12 with fail
  clear k4 z4
  have H3 := Lib.hid (H2.out.set4 t3)
  clear H2
  generalize W2.setCell ⟨F, 4, none⟩ (.string t3) = W3 at *
  obtain ⟨k0, k1, k2, k3, k4⟩ := H3.out.f.cells
  have HONE : Hid ((#[.string t1, .string t2, .int .i64 (-1), .int .u32 ty, .string t3] : Array Value).all (·.oneCell') = true) := by show _ = _; simp [Value.oneCell']
  have HZ : Hid (W3.heap[w.heap.size]? = some (.cells #[.string ⟨#[]⟩, .string ⟨#[]⟩, .int .i64 0, .int .u32 0, .string ⟨#[]⟩] 35)) := H3.out.r
  go_wp2_with (refine wpList_store_row rfl 35 (.tmp 2) (.tmp 48) rfl w.heap.size #[.string t1, .string t2, .int .i64 (-1), .int .u32 ty, .string t3] rfl rfl 35 _ HZ.out refSize rfl HONE.out ?_)
  (try simp only [Exit.inBlock, Exit.then])
  rw [HR.out]
  refine bodyPost_ret (results_cell_tmp_row rfl _ _ w.heap.size _ #[.string t1, .string t2, .int .i64 (-1), .int .u32 ty, .string t3] (0, 0) _ rfl (setRow_heap _ _ _ _ _ _ HZ.out) Tryd.underlying35 rfl refSize) rfl ?_
  exact ⟨rfl, ((Fr.of_below (p := fun _ => False) H3.out.old).row (Nat.le_refl _) _).below (Nat.le_refl _) (fun _ h => h.elim)⟩
set_option maxRecDepth 100000 in
set_option maxHeartbeats 2000000 in
theorem refParse_tag (f : Frm) (hf : f.Ok) (hv : f.vlan ≠ -1) (hn : f.bs.length ≤ 9000) (w : World) :
    Calls Tryd.prog 6 #[.string (txt f.bs)] w fun e w' => e = .returned (.tuple #[.agg (refRow f), .string ⟨#[]⟩]) ∧ Below w.heap.size w w' := by
  obtain ⟨dst, src, vlan, ty, b⟩ := f
  simp only at hv
  have hty : ty < 65536 := hf.ty
  obtain ⟨v, rfl, hvl⟩ : ∃ v : Nat, vlan = (v : Int) ∧ v < 65536 := ⟨vlan.toNat, by rcases hf.tag with h | h <;> simp only at h <;> omega, by rcases hf.tag with h | h <;> simp only at h <;> omega⟩
  have hl := Frm.bs_len ⟨dst, src, v, ty, b⟩
  rw [show Frm.head ⟨dst, src, v, ty, b⟩ = 18 by unfold Frm.head; rw [if_neg (by simp only; omega)]] at hl
  simp only at hl
  have hbs : Frm.bs ⟨dst, src, v, ty, b⟩ = dst.bs ++ (src.bs ++ (([129, 0] ++ be2 v) ++ (be2 ty ++ b))) := by
    unfold Frm.bs Frm.tail tagBs
    simp only
    rw [if_neg (by omega), Int.toNat_natCast, List.append_assoc _ (be2 ty) b]
  have h1 : 18 ≤ (txt (Frm.bs ⟨dst, src, v, ty, b⟩)).size := by rw [txt_size, hl]; omega
  have h2 : (txt (Frm.bs ⟨dst, src, v, ty, b⟩)).size ≤ 9000 := by rw [txt_size]; exact hn
  have e0 : (txt (Frm.bs ⟨dst, src, v, ty, b⟩)).extract 0 6 = txt dst.bs := by rw [txt_mid, hbs]; rfl
  have e1 : (txt (Frm.bs ⟨dst, src, v, ty, b⟩)).extract 6 12 = txt src.bs := by rw [txt_mid, hbs]; rfl
  have e2 : (txt (Frm.bs ⟨dst, src, v, ty, b⟩)).extract 12 14 = ⟨#[129, 0]⟩ := by rw [txt_mid, hbs]; rfl
  have e3 : (txt (Frm.bs ⟨dst, src, v, ty, b⟩)).extract 12 (txt (Frm.bs ⟨dst, src, v, ty, b⟩)).size = txt (([129, 0] ++ be2 v) ++ (be2 ty ++ b)) := by rw [txt_tail, hbs]; rfl
  have e6 : (txt (([129, 0] ++ be2 v) ++ (be2 ty ++ b))).extract 0 2 = ⟨#[129, 0]⟩ := by rw [txt_mid]; rfl
  have e7 : (txt (([129, 0] ++ be2 v) ++ (be2 ty ++ b))).extract 2 4 = txt (be2 v) := by rw [txt_mid]; rfl
  have e8 : (txt (([129, 0] ++ be2 v) ++ (be2 ty ++ b))).extract 4 (txt (([129, 0] ++ be2 v) ++ (be2 ty ++ b))).size = txt (be2 ty ++ b) := by rw [txt_tail]; rfl
  have h4 : 4 ≤ (txt (([129, 0] ++ be2 v) ++ (be2 ty ++ b))).size := by simp [txt_size, be2_len]
  have e4 : (txt (be2 ty ++ b)).extract 0 2 = txt (be2 ty) := by rw [txt_mid]; rfl
  have e5 : (txt (be2 ty ++ b)).extract 2 (txt (be2 ty ++ b)).size = txt b := by rw [txt_tail]; rfl
  have h3 : 2 ≤ (txt (be2 ty ++ b)).size := by rw [txt_size, List.length_append, be2_len]; omega
  have HN := Lib.hid (refNum2 (UInt8.ofNat (ty / 256)) (UInt8.ofNat ty))
  have hnum : (UInt8.ofNat (ty / 256)).toNat * 256 + (UInt8.ofNat ty).toNat = ty := by have := be2_val ty hty; omega
  rw [hnum] at HN
  have HN2 : Hid (∀ w, Calls Tryd.prog 16 #[.string (txt (be2 ty))] w fun e w' => e = .returned (.int .u32 (ty : Int)) ∧ w = w') := HN
  have HM := Lib.hid (refNum2 (UInt8.ofNat (v / 256)) (UInt8.ofNat v))
  have hnum2 : (UInt8.ofNat (v / 256)).toNat * 256 + (UInt8.ofNat v).toNat = v := by have := be2_val v hvl; omega
  rw [hnum2] at HM
  have HM2 : Hid (∀ w, Calls Tryd.prog 16 #[.string (txt (be2 v))] w fun e w' => e = .returned (.int .u32 (v : Int)) ∧ w = w') := HM
  have s1 : IntKind.i64.wrap (v : Int) = (v : Int) := i64_fits _ (by omega) (by omega)
  have HS1 := Lib.hid s1
  have HR : Hid (refRow ⟨dst, src, v, ty, b⟩ = #[.string (txt dst.bs), .string (txt src.bs), .int .i64 v, .int .u32 ty, .string (txt b)]) := rfl
  clear hf hl hn hv HN hnum HM hnum2 hbs s1
  generalize txt (Frm.bs ⟨dst, src, v, ty, b⟩) = t at *
  generalize txt (([129, 0] ++ be2 v) ++ (be2 ty ++ b)) = r0 at *
  generalize txt (be2 ty ++ b) = r at *
  generalize txt (be2 v) = yv at *
  generalize txt (be2 ty) = y at *
  generalize txt dst.bs = t1 at *
  generalize txt src.bs = t2 at *
  generalize txt b = t3 at *
  go_enter Tryd.func6, Tryd.ntmps6
  go_upto_region 5 with fail
  obtain ⟨W, hW⟩ : ∃ W, W = w.alloc (.cells #[.string ⟨#[]⟩, .string ⟨#[]⟩, .int .i64 0, .int .u32 0, .string ⟨#[]⟩] 35) := ⟨_, rfl⟩
  rw [← hW]
  have hlt : w.heap.size < W.heap.size := by rw [hW]; simp
  have HR0 : Hid (RefAt W w.heap.size ⟨#[]⟩ ⟨#[]⟩ 0 0 ⟨#[]⟩) := by show RefAt _ _ _ _ _ _ _; rw [hW]; exact RefAt.new w _ _ _ _ _
  have HB0 : Hid (Below w.heap.size w W) := by show Below _ _ _; rw [hW]; exact below_al (Below.refl _ _) _
  have HLT := Lib.hid hlt
  clear hW hlt
  go_cut [4] (fun s4 wx => s4 = .pointer (some ⟨W.heap.size, 0, none⟩) ∧ RefSt w wx w.heap.size W.heap.size t1 t2 (-1) 0 ⟨#[]⟩)
  case first =>
    have HF := Lib.hid (RefAt.new W t1 t2 (-1) 0 ⟨#[]⟩)
    go_region
    all_goals
      go_wp2_with fail
      go_meet
      exact ⟨rfl, ((HR0.out).below (below_al (Below.refl W.heap.size W) _)).below (below_drew _), (HF.out).below (below_drew _), Nat.ne_of_lt HLT.out, below_drw (below_al' HB0.out _ (Nat.le_of_lt HLT.out)), Nat.le_refl _, Nat.le_of_lt HLT.out⟩
  obtain ⟨rfl, hs⟩ := hcut
  generalize W.heap.size = F at *
  have H1 := Lib.hid hs
  clear hs HR0 HB0 HLT
  go_upto_region 8 with fail
  have k2 := H1.out.f.cells.2.2.1
  have z2 := H1.out.f.free 2
  go_wp2_with fail
  refine (HM2.out _).mono ?_
  rintro e w' ⟨rfl, rfl⟩
  have s1 := HS1.out
  go_upto_region 9 with fail
  clear k2 z2 s1
  have H0 := Lib.hid (H1.out.set2 (v : Int))
  clear H1
  generalize wc.setCell ⟨F, 2, none⟩ (.int .i64 v) = W1 at *
  have H1 := H0
  clear H0
  go_wp2_with fail
  refine (HN2.out _).mono ?_
  rintro e w' ⟨rfl, rfl⟩
  have k3 := H1.out.f.cells.2.2.2.1
  have z3 := H1.out.f.free 3
  go_upto_region 11 with fail
  clear k3 z3
  have H2 := Lib.hid (H1.out.set3 (ty : Int))
  clear H1
  generalize W1.setCell ⟨F, 3, none⟩ (.int .u32 ty) = W2 at *
  have k4 := H2.out.f.cells.2.2.2.2
  have z4 := H2.out.f.free 4
  go_upto_region 12 with fail
  clear k4 z4
  have H3 := Lib.hid (H2.out.set4 t3)
  clear H2
  generalize W2.setCell ⟨F, 4, none⟩ (.string t3) = W3 at *
  obtain ⟨k0, k1, k2, k3, k4⟩ := H3.out.f.cells
  have HONE : Hid ((#[.string t1, .string t2, .int .i64 v, .int .u32 ty, .string t3] : Array Value).all (·.oneCell') = true) := by show _ = _; simp [Value.oneCell']
  have HZ : Hid (W3.heap[w.heap.size]? = some (.cells #[.string ⟨#[]⟩, .string ⟨#[]⟩, .int .i64 0, .int .u32 0, .string ⟨#[]⟩] 35)) := H3.out.r
  go_wp2_with (refine wpList_store_row rfl 35 (.tmp 2) (.tmp 48) rfl w.heap.size #[.string t1, .string t2, .int .i64 v, .int .u32 ty, .string t3] rfl rfl 35 _ HZ.out refSize rfl HONE.out ?_)
  (try simp only [Exit.inBlock, Exit.then])
  rw [HR.out]
  refine bodyPost_ret (results_cell_tmp_row rfl _ _ w.heap.size _ #[.string t1, .string t2, .int .i64 v, .int .u32 ty, .string t3] (0, 0) _ rfl (setRow_heap _ _ _ _ _ _ HZ.out) Tryd.underlying35 rfl refSize) rfl ?_
  exact ⟨rfl, ((Fr.of_below (p := fun _ => False) H3.out.old).row (Nat.le_refl _) _).below (Nat.le_refl _) (fun _ h => h.elim)⟩
theorem refParse_ok (f : Frm) (hf : f.Ok) (hn : f.bs.length ≤ 9000) (w : World) :
    Calls Tryd.prog 6 #[.string (txt f.bs)] w fun e w' => e = .returned (.tuple #[.agg (refRow f), .string ⟨#[]⟩]) ∧ Below w.heap.size w w' := by
  by_cases hv : f.vlan = -1
  · exact refParse_plain f hf hv hn w
  · exact refParse_tag f hf hv hn w
end Go.Proofs.YtifjelinojndoaaDoor
