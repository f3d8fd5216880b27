/-
  What is proved: 'shown' of the laws of layer 5 answers true, and leaves all older memory as it was.
  Conditions: errors.errorType holds the handle of the type error.
-/
import Derived.Test.YtdhndahoaobhpaaDoorVSame
namespace Go.Proofs.YtdhndahoaobhpaaDoor
open Go.RowKit

/-- A block that holds just these bytes. -/
def BAt (W : World) (g : Nat) (l : List UInt8) : Prop := W.heap[g]? = some (bytesObj l)
section
variable {W W' : World} {g : Nat} {l : List UInt8}
theorem BAt.lt (h : BAt W g l) : g < W.heap.size := (Array.getElem?_eq_some_iff.1 h).1
theorem BAt.below (h : BAt W g l) (hb : Below W.heap.size W W') : BAt W' g l := (hb.block _ h.lt).trans h
theorem BAt.rd (h : BAt W g l) : Rd W (.slice (some ⟨g, 0, none⟩) l.length l.length) l := Rd.of_obj h (Nat.le_refl _)
theorem BAt.cell (h : BAt W g l) (i : Nat) (u : UInt8) (hu : l[i]? = some u) : W.cell? ⟨g, i, none⟩ = some (.int .u8 (u.toNat : Int)) := bytesCell h i u hu
theorem BAt.free (h : BAt W g l) (i : Nat) : W.frozen? ⟨g, i, none⟩ = false := by
  have h' : W.heap[g]? = some (bytesObj l) := h
  unfold bytesObj at h'
  simp [World.frozen?, h']
theorem BAt.set (h : BAt W g l) (i : Nat) (x : UInt8) : BAt (W.setCell ⟨g, i, none⟩ (B8 x)) g (l.set i x) := by
  have h' : W.heap[g]? = some (bytesObj l) := h
  unfold BAt
  rw [heap_set, h']
  simp [bytesObj, List.map_set]
theorem BAt.chain {n : Int} {k : List ByteArray} {v : Value} (h : BAt W g l) (hc : Chain W n k v) (i : Nat) (x : Value) : Chain (W.setCell ⟨g, i, none⟩ x) n k v := by
  have hcell : ∀ u, W.cell? ⟨g, i, none⟩ = some u → ∃ y, u = B8 y := by
    intro u hu
    rw [cell_of_row W g _ _ _ _ h] at hu
    have hu' : (l.map B8)[i]? = some u := by simpa using hu
    obtain ⟨y, _, e⟩ := getElem_B8 hu'
    exact ⟨y, e⟩
  refine hc.fr2 (Fr.of_set (p := (· = ⟨g, i, none⟩)) W _ x rfl) (fun a s ha e => ?_) (fun a T u ha e => ?_)
  · subst ha
    obtain ⟨y, hy⟩ := hcell _ e
    cases hy
  · subst ha
    obtain ⟨y, hy⟩ := hcell _ e
    cases hy
end
theorem rd_set {W : World} {G n c : Nat} {bs : List UInt8} (h : Rd W (.slice (some ⟨G, 0, none⟩) n c) bs) {g : Nat} (hne : G ≠ g) (i : Nat) (x : Value) : Rd (W.setCell ⟨g, i, none⟩ x) (.slice (some ⟨G, 0, none⟩) n c) bs := by
  obtain ⟨A, c', e, hc, hi⟩ := h
  refine ⟨A, c', e, hc, fun h0 => ?_⟩
  obtain ⟨g', o, e1, hi⟩ := hi h0
  refine ⟨g', o, e1, fun j u hu => ?_⟩
  cases e
  cases e1
  rw [World.cell?_setCell_other _ _ _ _ (fun e => hne (by injection e with h1 h2 h3; first | exact h1 | exact h1.symm))]
  exact hi j u hu
theorem told_ip {W : World} {m : Nat} {l : List ByteArray} {v : Value} (hm : m < 14) (hz : (text m l).size ≤ 1000000000) (hc : Chain W m l v) (t : ByteArray) (ht : text m l = t) :
    Calls Tryd.prog 10 #[v] W fun e w' => e = .returned (.string t) ∧ Below W.heap.size W w' := by
  subst ht
  refine (told_any m hm l v W hz hc).mono ?_
  rintro e w' ⟨rfl, k, rfl⟩
  exact ⟨rfl, ⟨rfl, rfl, rfl, Nat.le_refl _, fun _ _ => rfl⟩⟩
theorem ibelow_on {n : Nat} {w a b : World} (h : Below n w a) (hn : w.heap.size = n) (k : Below a.heap.size a b) : Below n w b := by subst hn; exact below_to h k h.size
theorem ipush_modify {α : Type} (a : Array α) (x : α) (f : α → α) : (a.push x).modify a.size f = a.push (f x) := by
  apply Array.ext
  · simp
  · intro i h1 h2
    simp only [Array.getElem_modify, Array.getElem_push]
    by_cases h : a.size = i
    · subst h
      simp
    · have hi : i < a.size := by simp at h1; omega
      simp [h, hi]
def xyObj : Obj := .cells #[.int .u8 120, .int .u8 121] 5
def xyMark : Obj := .cells #[.int .u8 120, .int .u8 121] 5 (2, 3)
theorem conv_xy (W : World) : (convert 24 24 (.slice (some ⟨W.heap.size, 0, none⟩) 2 2)).run Tryd.prog (W.alloc xyObj) = .ok (.slice (some ⟨W.heap.size, 0, none⟩) 2 2) (W.alloc xyMark) := by
  have hsh : (W.alloc xyObj).shape? W.heap.size = some (5, 2) := by
    unfold World.shape?
    rw [heap_alloc_new W xyObj]
    rfl
  have hfr : (W.alloc xyObj).freeze ⟨W.heap.size, 2, none⟩ 1 = W.alloc xyMark := by
    unfold World.freeze
    rw [if_neg (by decide)]
    show ({ W.alloc xyObj with heap := (W.heap.push xyObj).modify W.heap.size _ } : World) = _
    rw [ipush_modify]
    rfl
  rw [← hfr]
  simp [convert, run_underlying Tryd.underlying24, run_underlying Tryd.underlying5, markStringish, hsh]
def shI : Ip := ⟨0, 1, false, false, 0, 64, 17, 167772161, 167772162, [120, 121]⟩
theorem shI_in : shI.In := ⟨by decide, by decide, by decide, by decide, by decide, by decide, by decide, by decide⟩
theorem shI_good : shI.bad = 0 := by decide
def shV (g : Nat) : Obj := .cells #[.int .u8 0, .int .u16 1, .bool false, .bool false, .int .i64 0, .int .u8 64, .int .u8 17, .int .u32 167772161, .int .u32 167772162, .slice (some ⟨g, 0, none⟩) 2 2] 29
theorem shV_eq (g : Nat) : shI.obj (.slice (some ⟨g, 0, none⟩) 2 2) = shV g := rfl
theorem xy_rd (W : World) : Rd (W.alloc xyMark) (.slice (some ⟨W.heap.size, 0, none⟩) 2 2) [120, 121] := by
  have h := heap_alloc_new W xyMark
  unfold xyMark at h
  refine ⟨_, 2, rfl, Nat.le_refl _, fun _ => ⟨W.heap.size, 0, rfl, fun i u hu => ?_⟩⟩
  rw [xyMark, cell_of_row _ _ _ _ _ _ h]
  match i, hu with
  | 0, hu | 1, hu => cases hu; rfl
  | i + 2, hu => cases hu
/-- The packet of 'shown', its bytes' lowest but one of the first line turned. -/
def shH : Hd := { shI.hd shI.sum with ttl := 65 }
theorem shH_in : shH.In := ⟨by decide, by decide, by decide, by decide, by decide, by decide, by decide, by decide, by decide, by decide⟩
theorem shH_code : shH.code [120, 121] = 4 := by decide
theorem shI_bs : shI.bs.set 8 65 = shH.bs ++ [120, 121] := by decide
def shOff : Ip := ⟨0, 0, false, false, 4, 0, 0, 0, 0, []⟩
theorem shOff_bad : shOff.bad = 1 := by decide
theorem sh_start (w : World) : Calls Tryd.prog 5 #[.agg #[.int .u8 0, .int .u16 1, .bool false, .bool false, .int .i64 0, .int .u8 64, .int .u8 17, .int .u32 167772161, .int .u32 167772162, .slice (some ⟨w.heap.size, 0, none⟩) 2 2]] ((w.alloc xyMark).alloc (shV w.heap.size)) fun e w' => ∃ b, e = .returned (.tuple #[.slice (some ⟨b, 0, none⟩) 22 22, .nilIface]) ∧ ((w.alloc xyMark).alloc (shV w.heap.size)).heap.size ≤ b ∧ BAt w' b shI.bs ∧ Below ((w.alloc xyMark).alloc (shV w.heap.size)).heap.size ((w.alloc xyMark).alloc (shV w.heap.size)) w' :=
  vBytes_ok shI shI_in shI_good (some ⟨w.heap.size, 0, none⟩) 2 _ ((xy_rd w).below (below_al (Below.refl _ _) _))
set_option maxRecDepth 100000 in
set_option maxHeartbeats 4000000 in
theorem vShown_any (w : World) (hg : Hdl w) : Calls Tryd.prog 4 #[] w fun e w' => e = .returned (.bool true) ∧ Below w.heap.size w w' := by
  have HG := Lib.hid hg
  have X1 := Lib.hid (sh_start w)
  have HP : Hid (IpAt ((w.alloc xyMark).alloc (shV w.heap.size)) (w.heap.size + 1) shI (.slice (some ⟨w.heap.size, 0, none⟩) 2 2)) := by
    have h := IpAt.new (w.alloc xyMark) shI (.slice (some ⟨w.heap.size, 0, none⟩) 2 2)
    rw [World.size_alloc] at h
    exact h
  have HR : Hid (Rd ((w.alloc xyMark).alloc (shV w.heap.size)) (.slice (some ⟨w.heap.size, 0, none⟩) 2 2) [120, 121]) := (xy_rd w).below (below_al (Below.refl _ _) _)
  have HB : Hid (Below w.heap.size w ((w.alloc xyMark).alloc (shV w.heap.size))) := below_al (below_al (Below.refl w.heap.size w) _) _
  have cv := conv_xy w
  clear hg
  generalize hW : (w.alloc xyMark).alloc (shV w.heap.size) = W0 at X1 HP HR HB
  unfold xyMark shV at hW
  unfold xyObj xyMark at cv
  go_enter Tryd.func4, Tryd.ntmps4
  go_upto_region 2 with fail
  clear cv
  (try rw [hW])
  clear hW
  have HN : Hid (w.heap.size + 1 < W0.heap.size) := HP.out.lt
  obtain ⟨c0, c1, c2, c3, c4, c5, c6, c7, c8, c9⟩ := HP.out.cells
  generalize hn : w.heap.size = n at *
  have HW := Lib.hid hn
  clear hn
  go_wp2_with fail
  refine X1.out.mono ?_
  clear c0 c1 c2 c3 c4 c5 c6 c7 c8 c9
  rintro e w1 ⟨b, rfl, hbn, hbo, hl1⟩
  have HP1 := Lib.hid (HP.out.below hl1)
  have HR1 := Lib.hid (HR.out.below hl1)
  have HB1 := Lib.hid (ibelow_on HB.out HW.out hl1)
  have HY1 := Lib.hid hbo
  have HNB : Hid (n + 1 < b) := by have := HN.out; show _ < _; omega
  clear X1 HP HR HB hbn hbo hl1
  go_upto_region 5 with fail
  have m1 := Mine.first (Below.refl w1.heap.size w1)
  have y1 := HY1.out.below (W' := w1.alloc (.cells #[] 5)) (below_al (Below.refl _ _) _)
  obtain ⟨g2, k2, w2, run2, m2, _, _, s2⟩ := m1.append shI.bs (.slice (some ⟨b, 0, none⟩) 22 22) y1.rd (by decide)
  have m3 := m2.alloc (bytesObj [7])
  obtain ⟨g4, k4, w4, run4, m4, _, _, s4⟩ := m3.append [7] (.slice (some ⟨w2.heap.size, 0, none⟩) 1 1) (Rd.of_obj (c := 1) (bytesObj_new w2 [7]) (by decide)) (by decide)
  have E2 : Hid ((Builtin.append_ #[24, 24] 24 #[.slice (some ⟨w1.heap.size, 0, none⟩) 0 0, .slice (some ⟨b, 0, none⟩) 22 22]).run Tryd.prog (w1.alloc (.cells #[] 5)) = .ok (.slice (some ⟨g2, 0, none⟩) 22 k2) w2) := run2
  have E4 : Hid ((Builtin.append_ #[24, 24] 24 #[.slice (some ⟨g2, 0, none⟩) 22 k2, .slice (some ⟨w2.heap.size, 0, none⟩) 1 1]).run Tryd.prog (w2.alloc (.cells #[.int .u8 7] 5)) = .ok (.slice (some ⟨g4, 0, none⟩) 23 k4) w4) := run4
  have X2 := Lib.hid (vParse_of shI shI_in shI_good [7] (.slice (some ⟨g4, 0, none⟩) 23 k4) w4 m4.rd (by decide))
  have HP4 := Lib.hid (HP1.out.below m4.old)
  have HR4 := Lib.hid (HR1.out.below m4.old)
  have HB4 := Lib.hid (ibelow_on HB1.out HW.out m4.old)
  have HY4 := Lib.hid (HY1.out.below m4.old)
  clear m1 y1 run2 m2 s2 m3 run4 m4 s4 HP1 HR1 HB1 HY1
  go_wp2_with (first
    | (at_builtin; refine wpList_append_eq rfl (.tmp 27) (.tmp 28) 24 rfl _ _ rfl rfl _ _ E2.out ?_)
    | (at_builtin; refine wpList_append_eq rfl (.tmp 29) (.tmp 30) 24 rfl _ _ rfl rfl _ _ E4.out ?_))
  refine X2.out.mono ?_
  rintro e w5 ⟨b5, he, hn5, ho5, hl5⟩
  have he' : e = .returned (.tuple #[.agg #[.int .u8 0, .int .u16 1, .bool false, .bool false, .int .i64 0, .int .u8 64, .int .u8 17, .int .u32 167772161, .int .u32 167772162, .slice (some ⟨b5, 0, none⟩) 2 2], .nilIface]) := he
  subst he'
  have hb6 := below_al (Below.refl w5.heap.size w5) (.cells #[.int .u8 0, .int .u16 1, .bool false, .bool false, .int .i64 0, .int .u8 64, .int .u8 17, .int .u32 167772161, .int .u32 167772162, .slice (some ⟨b5, 0, none⟩) 2 2] 29)
  have l6 := below_to hl5 hb6 hl5.size
  have HQ6 : Hid (IpAt (w5.alloc (.cells #[.int .u8 0, .int .u16 1, .bool false, .bool false, .int .i64 0, .int .u8 64, .int .u8 17, .int .u32 167772161, .int .u32 167772162, .slice (some ⟨b5, 0, none⟩) 2 2] 29)) w5.heap.size shI (.slice (some ⟨b5, 0, none⟩) 2 2)) := IpAt.new w5 shI (.slice (some ⟨b5, 0, none⟩) 2 2)
  have HS6 := Lib.hid (Rd.of_obj (c := 2) (be_block hb6 ho5) (by decide))
  have HP6 := Lib.hid (HP4.out.below l6)
  have HR6 := Lib.hid (HR4.out.below l6)
  have HY6 := Lib.hid (HY4.out.below l6)
  have HB6 := Lib.hid (ibelow_on HB4.out HW.out l6)
  have HNQ : Hid (b < w5.heap.size ∧ b < b5) := ⟨Nat.lt_of_lt_of_le HY4.out.lt hl5.size, Nat.lt_of_lt_of_le HY4.out.lt hn5⟩
  clear hn5 ho5 hl5 hb6 l6 HP4 HR4 HY4 HB4 E2 E4 X2 he
  go_upto_region 6 with fail
  generalize w5.alloc (.cells #[.int .u8 0, .int .u16 1, .bool false, .bool false, .int .i64 0, .int .u8 64, .int .u8 17, .int .u32 167772161, .int .u32 167772162, .slice (some ⟨b5, 0, none⟩) 2 2] 29) = W6 at *
  generalize w5.heap.size = g6 at *
  have X3 := Lib.hid (vParse_any (shI.hd shI.sum) (Ip.hd_in shI_in shI_good (sum_lt shI)) [120] (.slice (some ⟨b, 0, none⟩) 21 22) W6 (HY6.out.rd.front (K := 21) (by decide)) (by decide))
  go_wp2_with fail
  refine X3.out.mono ?_
  rintro e w7 he
  obtain ⟨b7, he2, hc7, hl7⟩ : VErr 2 [ipWord] W6 e w7 := by
    rcases he with ⟨_, h⟩ | ⟨h, _⟩
    · exact h
    · exact absurd h (by decide)
  have he' : e = .returned (.tuple #[.agg #[.int .u8 0, .int .u16 0, .bool false, .bool false, .int .i64 0, .int .u8 0, .int .u8 0, .int .u32 0, .int .u32 0, .slice none 0 0], .iface 74 (.pointer (some ⟨b7, 0, none⟩))]) := he2
  subst he'
  have hb8 := below_al (Below.refl w7.heap.size w7) (.cells #[.int .u8 0, .int .u16 0, .bool false, .bool false, .int .i64 0, .int .u8 0, .int .u8 0, .int .u32 0, .int .u32 0, .slice none 0 0] 29)
  have l8 := below_to hl7 hb8 hl7.size
  have HQ8 := Lib.hid (HQ6.out.below l8)
  have HS8 := Lib.hid (HS6.out.below l8)
  have HP8 := Lib.hid (HP6.out.below l8)
  have HR8 := Lib.hid (HR6.out.below l8)
  have HY8 := Lib.hid (HY6.out.below l8)
  have HB8 := Lib.hid (ibelow_on HB6.out HW.out l8)
  have HC8 := Lib.hid (hc7.below hb8)
  clear he he2 hc7 hl7 hb8 l8 HQ6 HS6 HP6 HR6 HY6 HB6 X3
  go_upto_region 7 with fail
  generalize w7.alloc (.cells #[.int .u8 0, .int .u16 0, .bool false, .bool false, .int .i64 0, .int .u8 0, .int .u8 0, .int .u32 0, .int .u32 0, .slice none 0 0] 29) = W8 at *
  have k8 := HY8.out.cell 8 64 rfl
  have z8 := HY8.out.free 8
  go_upto_region 8 with fail
  have HQ9 : Hid (IpAt (W8.setCell ⟨b, 8, none⟩ (.int .u8 65)) g6 shI (.slice (some ⟨b5, 0, none⟩) 2 2)) := set_block HQ8.out (Nat.ne_of_gt HNQ.out.1) _
  have HS9 : Hid (Rd (W8.setCell ⟨b, 8, none⟩ (.int .u8 65)) (.slice (some ⟨b5, 0, none⟩) 2 2) [120, 121]) := rd_set HS8.out (Nat.ne_of_gt HNQ.out.2) _ _
  have HP9 : Hid (IpAt (W8.setCell ⟨b, 8, none⟩ (.int .u8 65)) (n + 1) shI (.slice (some ⟨n, 0, none⟩) 2 2)) := set_block HP8.out (Nat.ne_of_lt HNB.out) _
  have HR9 : Hid (Rd (W8.setCell ⟨b, 8, none⟩ (.int .u8 65)) (.slice (some ⟨n, 0, none⟩) 2 2) [120, 121]) := rd_set HR8.out (by have := HNB.out; omega) _ _
  have HY9 : Hid (BAt (W8.setCell ⟨b, 8, none⟩ (.int .u8 65)) b (shH.bs ++ [120, 121])) := by
    have h := HY8.out.set 8 65
    rw [shI_bs] at h
    exact h
  have HB9 : Hid (Below n w (W8.setCell ⟨b, 8, none⟩ (.int .u8 65))) := HB8.out.setCell (by have := HNB.out; show n ≤ b; omega) _
  have HC9 : Hid (Chain (W8.setCell ⟨b, 8, none⟩ (.int .u8 65)) 2 [ipWord] (.iface 74 (.pointer (some ⟨b7, 0, none⟩)))) := HY8.out.chain HC8.out 8 _
  clear k8 z8 HQ8 HS8 HP8 HR8 HY8 HB8 HC8
  generalize W8.setCell ⟨b, 8, none⟩ (.int .u8 65) = W9 at *
  have X4 := Lib.hid (vParse_any shH shH_in [120, 121] (.slice (some ⟨b, 0, none⟩) 22 22) W9 HY9.out.rd (by decide))
  rw [shH_code] at X4
  go_wp2_with fail
  refine X4.out.mono ?_
  rintro e w10 he
  obtain ⟨b10, he2, hc10, hl10⟩ : VErr 4 [ipWord] W9 e w10 := by
    rcases he with ⟨_, h⟩ | ⟨h, _⟩
    · exact h
    · exact absurd h (by decide)
  have he' : e = .returned (.tuple #[.agg #[.int .u8 0, .int .u16 0, .bool false, .bool false, .int .i64 0, .int .u8 0, .int .u8 0, .int .u32 0, .int .u32 0, .slice none 0 0], .iface 74 (.pointer (some ⟨b10, 0, none⟩))]) := he2
  subst he'
  have hb11 := below_al (Below.refl w10.heap.size w10) (.cells #[.int .u8 0, .int .u16 0, .bool false, .bool false, .int .i64 0, .int .u8 0, .int .u8 0, .int .u32 0, .int .u32 0, .slice none 0 0] 29)
  have l11 := below_to hl10 hb11 hl10.size
  have HQ11 := Lib.hid (HQ9.out.below l11)
  have HS11 := Lib.hid (HS9.out.below l11)
  have HP11 := Lib.hid (HP9.out.below l11)
  have HR11 := Lib.hid (HR9.out.below l11)
  have HY11 := Lib.hid (HY9.out.below l11)
  have HB11 := Lib.hid (ibelow_on HB9.out HW.out l11)
  have HC11 := Lib.hid (HC9.out.below l11)
  have HD11 := Lib.hid (hc10.below hb11)
  clear he he2 hc10 hl10 hb11 l11 HQ9 HS9 HP9 HR9 HY9 HB9 HC9 X4
  go_upto_region 9 with fail
  generalize w10.alloc (.cells #[.int .u8 0, .int .u16 0, .bool false, .bool false, .int .i64 0, .int .u8 0, .int .u8 0, .int .u32 0, .int .u32 0, .slice none 0 0] 29) = W11 at *
  have X5 : Hid (Calls Tryd.prog 9 #[.agg #[.int .u8 0, .int .u16 0, .bool false, .bool false, .int .i64 4, .int .u8 0, .int .u8 0, .int .u32 0, .int .u32 0, .slice none 0 0]] W11 (RightTold shOff W11)) := right_any shOff none 0 W11 (by decide)
  go_wp2_with fail
  refine X5.out.mono ?_
  rintro e w12 ht
  obtain ⟨b12, rfl, hc12, hl12⟩ := ht.bad (by decide)
  rw [shOff_bad] at hc12
  have HQ12 := Lib.hid (HQ11.out.below hl12)
  have HS12 := Lib.hid (HS11.out.below hl12)
  have HP12 := Lib.hid (HP11.out.below hl12)
  have HR12 := Lib.hid (HR11.out.below hl12)
  have HY12 := Lib.hid (HY11.out.below hl12)
  have HB12 := Lib.hid (ibelow_on HB11.out HW.out hl12)
  have HC12 := Lib.hid (HC11.out.below hl12)
  have HD12 := Lib.hid (HD11.out.below hl12)
  have HE12 := Lib.hid hc12
  clear ht hc12 hl12 HQ11 HS11 HP11 HR11 HY11 HB11 HC11 HD11 X5
  go_upto_region 10 with fail
  obtain ⟨c0, c1, c2, c3, c4, c5, c6, c7, c8, c9⟩ := HQ12.out.cells
  obtain ⟨d0, d1, d2, d3, d4, d5, d6, d7, d8, d9⟩ := HP12.out.cells
  have X6 : Hid (Calls Tryd.prog 7 #[.agg #[.int .u8 0, .int .u16 1, .bool false, .bool false, .int .i64 0, .int .u8 64, .int .u8 17, .int .u32 167772161, .int .u32 167772162, .slice (some ⟨b5, 0, none⟩) 2 2], .agg #[.int .u8 0, .int .u16 1, .bool false, .bool false, .int .i64 0, .int .u8 64, .int .u8 17, .int .u32 167772161, .int .u32 167772162, .slice (some ⟨n, 0, none⟩) 2 2]] w12 fun e w' => e = .returned (.bool (ipB shI shI)) ∧ Below w12.heap.size w12 w') := same_any shI shI shI_in shI_in _ _ 2 2 w12 HS12.out HR12.out
  rw [ipB_same] at X6
  go_wp2_with fail
  refine X6.out.mono ?_
  rintro e w13 ⟨rfl, hl13⟩
  clear c0 c1 c2 c3 c4 c5 c6 c7 c8 c9 d0 d1 d2 d3 d4 d5 d6 d7 d8 d9 X6 HQ12 HS12 HP12 HR12
  have cv : (convert 24 9 (.slice (some ⟨b, 0, none⟩) 4 22)).run Tryd.prog w13 = .ok (.string ⟨#[69, 0, 0, 22]⟩) w13 := convert_rd ((HY12.out.below hl13).rd.front (K := 4) (by decide))
  have HB13 := Lib.hid (ibelow_on HB12.out HW.out hl13)
  have XT := Lib.hid (told_ip (m := 2) (by omega) (by decide) (HC12.out.below hl13) ⟨#[105, 112, 118, 52, 58, 32, 101, 114, 114, 111, 114, 32, 50]⟩ (by decide))
  have HD13 := Lib.hid (HD12.out.below hl13)
  have HE13 := Lib.hid (HE12.out.below hl13)
  clear hl13 HY12 HB12 HC12 HD12 HE12
  go_wp2_with fail
  refine XT.out.mono ?_
  rintro e w14 ⟨rfl, hl14⟩
  clear cv XT
  have HB14 := Lib.hid (ibelow_on HB13.out HW.out hl14)
  have XC := Lib.hid (code_any 4 _ _ _ (HG.out.below (by rw [HW.out]; exact HB14.out)) (HD13.out.below hl14))
  have HE14 := Lib.hid (HE13.out.below hl14)
  clear hl14
  go_wp2_with fail
  refine XC.out.mono ?_
  rintro e w15 ⟨rfl, hl15⟩
  have HB15 := Lib.hid (ibelow_on HB14.out HW.out hl15)
  have XD := Lib.hid (code_any 1 _ _ _ (HG.out.below (by rw [HW.out]; exact HB15.out)) (HE14.out.below hl15))
  clear hl15 XC
  go_wp2_with fail
  refine XD.out.mono ?_
  rintro e w16 ⟨rfl, hl16⟩
  have HB16 := Lib.hid (ibelow_on HB15.out HW.out hl16)
  clear hl16 XD
  go_wp2_with fail
  go_ret
  exact ⟨rfl, by rw [HW.out]; exact HB16.out⟩
end Go.Proofs.YtdhndahoaobhpaaDoor
