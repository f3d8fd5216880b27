/-
  What is proved: 'shown' of the laws of layer 4 answers true, and leaves all older memory as it was; a row of bytes of which one is written over; append where there is no room.
  Conditions: errors.errorType holds the handle of the type error.
-/
import Derived.Test.YthinmonahnbkdaaDoorAParse
import Derived.Test.YthinmonahnbkdaaDoorABytes
import Derived.Test.YthinmonahnbkdaaDoorAEq
import Derived.ArgAppend
namespace Go.Proofs.YthinmonahnbkdaaDoor
open Go.RowKit

/-- append where there is no room: a new row; all older memory stays. -/
theorem append_full {w : World} {g : Nat} {bs xs : List UInt8} {a : Addr} {c : Nat} (hr : Rd w (.slice (some ⟨g, 0, none⟩) bs.length bs.length) bs) (hx : Rd w (.slice (some a) xs.length c) xs) (h0 : 0 < xs.length) (hL : bs.length + xs.length ≤ 1099511627776) :
    ∃ g' c' w1, (Builtin.append_ #[22, 22] 22 #[.slice (some ⟨g, 0, none⟩) bs.length bs.length, .slice (some a) xs.length c]).run Tryd.prog w = .ok (.slice (some ⟨g', 0, none⟩) (bs ++ xs).length c') w1 ∧ Row w1 g' c' (bs ++ xs) ∧ c' ≤ maxLen ∧ w.heap.size ≤ g' ∧ Below w.heap.size w w1 := by
  obtain ⟨i0, hi, hz0, hz1, hz2⟩ := info_parts u8info
  have cells : ∀ {A : Addr} {n c : Nat} {l : List UInt8}, Rd w (.slice (some A) n c) l → ∀ j u, (l.map B8)[j]? = some u → w.cell? (A.add j) = some u := by
    intro A n c l h j u hu
    obtain ⟨x, hx, rfl⟩ := getElem_B8 hu
    obtain ⟨A', c', e, _, h⟩ := h
    have hj : j < l.length := (List.getElem?_eq_some_iff.1 hx).1
    obtain ⟨g, o, rfl, hc⟩ := h (by omega)
    cases e
    rw [Addr.add_lit]
    exact hc j x hx
  obtain ⟨v', w1, hrun, ho, hg⟩ := run_append_arg_grows (P := Tryd.prog) (w := w) 22 22 5 i0 (.int .u8 0) 1 1 Tryd.underlying22 hi hz0 hz1 hz2 rfl (by decide)
    ⟨g, 0, none⟩ bs.length bs.length (bs.map B8) (by simp) (cells hr) a xs.length c (xs.map B8) (by simp) (cells hx) (by omega) (by unfold maxLen; omega) (by omega)
  rcases ho.2 with ⟨e, h⟩ | ⟨g', c', cur, e, k0, k1, k2, k3, k4, k5⟩
  · exfalso
    omega
  · subst e
    refine ⟨g', c', w1, by rw [List.length_append]; exact hrun, ⟨⟨cur, k1, by rw [k4, Nat.mul_one], ?_⟩, by rw [List.length_append]; exact k2⟩, k3, k0, ⟨hg.os, hg.tape, hg.output, hg.size, fun k hk => hg.block k hk (fun e => by cases e)⟩⟩
    rw [Nat.mul_one] at k5
    rw [List.length_append, List.map_append]
    exact k5

/-- A block that holds just these bytes. -/
def BytesAt (W : World) (g : Nat) (l : List UInt8) : Prop := W.heap[g]? = some (bytesObj l)
section
variable {W W' : World} {g : Nat} {l : List UInt8}
theorem BytesAt.lt (h : BytesAt W g l) : g < W.heap.size := (Array.getElem?_eq_some_iff.1 h).1
theorem BytesAt.below (h : BytesAt W g l) (hb : Below W.heap.size W W') : BytesAt W' g l := (hb.block _ h.lt).trans h
theorem BytesAt.rd (h : BytesAt W g l) : Rd W (.slice (some ⟨g, 0, none⟩) l.length l.length) l := Rd.of_obj h (Nat.le_refl _)
theorem BytesAt.cell (h : BytesAt W g l) (i : Nat) (u : UInt8) (hu : l[i]? = some u) : W.cell? ⟨g, i, none⟩ = some (.int .u8 (u.toNat : Int)) := bytesCell h i u hu
theorem BytesAt.free (h : BytesAt W g l) (i : Nat) : W.frozen? ⟨g, i, none⟩ = false := by
  have h' : W.heap[g]? = some (bytesObj l) := h
  unfold bytesObj at h'
  simp [World.frozen?, h']
theorem BytesAt.set (h : BytesAt W g l) (i : Nat) (x : UInt8) : BytesAt (W.setCell ⟨g, i, none⟩ (B8 x)) g (l.set i x) := by
  have h' : W.heap[g]? = some (bytesObj l) := h
  unfold BytesAt
  rw [heap_set, h']
  simp [bytesObj, List.map_set]
theorem BytesAt.chain {n : Int} {k : List ByteArray} {v : Value} (h : BytesAt W g l) (hc : Chain W n k v) (i : Nat) (x : Value) : Chain (W.setCell ⟨g, i, none⟩ x) n k v := by
  have hcell : ∀ u, W.cell? ⟨g, i, none⟩ = some u → ∃ y, u = B8 y := by
    intro u hu
    rw [cell_of_row W g _ _ _ _ h] at hu
    have hu' : (l.map B8)[i]? = some u := by simpa using hu
    obtain ⟨y, _, e⟩ := getElem_B8 hu'
    exact ⟨y, e⟩
  refine hc.fr2 (Fr.of_set (p := (· = ⟨g, i, none⟩)) W _ x rfl) (fun a s ha e => ?_) (fun a T u ha e => ?_)
  · subst ha
    obtain ⟨y, hy⟩ := hcell _ e
    cases hy
  · subst ha
    obtain ⟨y, hy⟩ := hcell _ e
    cases hy
theorem PktAt.other {G : Nat} {p : Pkt} (h : PktAt W G p) (hne : G ≠ g) (i : Nat) (x : Value) : PktAt (W.setCell ⟨g, i, none⟩ x) G p := block_set W i x h hne
theorem below_set (hb : Below W'.heap.size W' W) (hg : W'.heap.size ≤ g) (i : Nat) (x : Value) : Below W'.heap.size W' (W.setCell ⟨g, i, none⟩ x) := hb.setCell hg _
end
theorem told_arp {W : World} {m : Nat} {l : List ByteArray} {v : Value} (hm : m < 14) (hz : (text m l).size ≤ 1000000000) (hc : Chain W m l v) (t : ByteArray) (ht : text m l = t) :
    Calls Tryd.prog 7 #[v] W fun e w' => e = .returned (.string t) ∧ Below W.heap.size W w' := by
  subst ht
  refine (told_any m hm l v W hz hc).mono ?_
  rintro e w' ⟨rfl, k, rfl⟩
  exact ⟨rfl, ⟨rfl, rfl, rfl, Nat.le_refl _, fun _ _ => rfl⟩⟩

theorem below_on {n : Nat} {w a b : World} (h : Below n w a) (hn : w.heap.size = n) (k : Below a.heap.size a b) : Below n w b := by subst hn; exact below_to h k h.size
def shP : Pkt := ⟨1, ⟨2, 0, 0, 0, 0, 1⟩, 167772161, .zero, 167772162⟩
theorem shP_in : shP.In := ⟨by decide, by decide, by decide⟩
def shLit : Obj := .cells #[.int .u16 1, .int .u8 2, .int .u8 0, .int .u8 0, .int .u8 0, .int .u8 0, .int .u8 1, .int .u32 167772161, .int .u8 0, .int .u8 0, .int .u8 0, .int .u8 0, .int .u8 0, .int .u8 0, .int .u32 167772162] 29
theorem shLit_eq : shP.obj = shLit := rfl
def noLit : Obj := .cells #[.int .u16 0, .int .u8 0, .int .u8 0, .int .u8 0, .int .u8 0, .int .u8 0, .int .u8 0, .int .u32 0, .int .u8 0, .int .u8 0, .int .u8 0, .int .u8 0, .int .u8 0, .int .u8 0, .int .u32 0] 29
theorem noLit_eq : noPkt.obj = noLit := rfl

set_option maxRecDepth 100000 in
set_option maxHeartbeats 4000000 in
theorem aShown_any (w : World) (hg : Hdl w) : Calls Tryd.prog 4 #[] w fun e w' => e = .returned (.bool true) ∧ Below w.heap.size w w' := by
  have HG := Lib.hid hg
  have X1 := Lib.hid (aBytes_any shP shP_in (w.alloc shP.obj))
  have HP := Lib.hid (PktAt.new w shP)
  have HB := Lib.hid (below_al (Below.refl w.heap.size w) shP.obj)
  clear hg
  rw [shLit_eq] at X1 HP HB
  obtain ⟨W0, hW0⟩ : ∃ W0, W0 = w.alloc shLit := ⟨_, rfl⟩
  rw [← hW0] at X1 HP HB
  unfold shLit at hW0
  obtain ⟨c0, c1, c2, c3, c4, c5, c6, c7, c8, c9, c10, c11, c12, c13, c14⟩ := HP.out.cells
  have HN : Hid (w.heap.size < W0.heap.size) := HP.out.lt
  go_enter Tryd.func4, Tryd.ntmps4
  go_upto_region 2 with fail
  rw [← hW0]
  generalize hn : w.heap.size = n at *
  have HW := Lib.hid hn
  clear hW0 hn
  go_wp2_with fail
  refine X1.out.mono ?_
  clear c0 c1 c2 c3 c4 c5 c6 c7 c8 c9 c10 c11 c12 c13 c14
  rintro e w1 ⟨b, rfl, hbn, hbo, hl1⟩
  have y1 : BytesAt w1 b shP.bs := hbo
  have b2 := below_al (Below.refl w1.heap.size w1) (bytesObj [9, 9])
  obtain ⟨g, c, w3, run3, row3, _, hg3, bl3⟩ := append_full (y1.below b2).rd (Rd.of_obj (c := 2) (bytesObj_new w1 [9, 9]) (by decide)) (by decide) (by decide)
  have E3 : Hid ((Builtin.append_ #[22, 22] 22 #[.slice (some ⟨b, 0, none⟩) 28 28, .slice (some ⟨w1.heap.size, 0, none⟩) 2 2]).run Tryd.prog (w1.alloc (.cells #[.int .u8 9, .int .u8 9] 5)) = .ok (.slice (some ⟨g, 0, none⟩) 30 c) w3) := run3
  have l3 := below_to b2 bl3 b2.size
  have X2 := Lib.hid (aParse_ok (.slice (some ⟨g, 0, none⟩) 30 c) shP [9, 9] w3 shP_in (.inl rfl) (by decide) row3.rd)
  have HY3 := Lib.hid (y1.below l3)
  have HP3 := Lib.hid ((HP.out.below hl1).below l3)
  have b1 := below_on HB.out HW.out hl1
  have HB3 := Lib.hid (below_on b1 HW.out l3)
  have HNB : Hid (n < b) := by have := HN.out; show _ < _; omega
  clear X1 hbn hbo hl1 y1 b2 run3 row3 hg3 bl3 l3 b1 HP HB
  go_wp2_with (at_builtin; refine wpList_append_eq rfl (.tmp 16) (.tmp 17) 22 rfl _ _ rfl rfl _ _ E3.out ?_)
  refine X2.out.mono ?_
  rintro e w4 ⟨he, hl4⟩
  have he' : e = .returned (.tuple #[.agg #[.int .u16 1, .int .u8 2, .int .u8 0, .int .u8 0, .int .u8 0, .int .u8 0, .int .u8 1, .int .u32 167772161, .int .u8 0, .int .u8 0, .int .u8 0, .int .u8 0, .int .u8 0, .int .u8 0, .int .u32 167772162], .nilIface]) := he
  subst he'
  have b5 := below_al (Below.refl w4.heap.size w4) shP.obj
  have l5 := below_to hl4 b5 hl4.size
  have HX5 := Lib.hid (PktAt.new w4 shP)
  have HY5 := Lib.hid (HY3.out.below l5)
  have HP5 := Lib.hid (HP3.out.below l5)
  have HB5 := Lib.hid (below_on HB3.out HW.out l5)
  have HBX : Hid (b < w4.heap.size) := Nat.lt_of_lt_of_le HY3.out.lt hl4.size
  rw [shLit_eq] at HX5 HY5 HP5 HB5
  unfold shLit at HX5 HY5 HP5 HB5
  clear E3 X2 he hl4 b5 l5 HY3 HP3 HB3
  go_upto_region 6 with fail
  generalize w4.alloc (.cells #[.int .u16 1, .int .u8 2, .int .u8 0, .int .u8 0, .int .u8 0, .int .u8 0, .int .u8 1, .int .u32 167772161, .int .u8 0, .int .u8 0, .int .u8 0, .int .u8 0, .int .u8 0, .int .u8 0, .int .u32 167772162] 29) = W5 at *
  generalize w4.heap.size = x at *
  have X3 := Lib.hid (aParse_short (.slice (some ⟨b, 0, none⟩) 27 28) (shP.bs.take 27) W5 (HY5.out.rd.front (K := 27) (by decide)) (by decide))
  go_wp2_with fail
  refine X3.out.mono ?_
  rintro e w6 ⟨b6, he, hc6, hl6⟩
  have he' : e = .returned (.tuple #[.agg #[.int .u16 0, .int .u8 0, .int .u8 0, .int .u8 0, .int .u8 0, .int .u8 0, .int .u8 0, .int .u32 0, .int .u8 0, .int .u8 0, .int .u8 0, .int .u8 0, .int .u8 0, .int .u8 0, .int .u32 0], .iface 76 (.pointer (some ⟨b6, 0, none⟩))]) := he
  subst he'
  have b7 := below_al (Below.refl w6.heap.size w6) noPkt.obj
  have l7 := below_to hl6 b7 hl6.size
  have HX7 := Lib.hid (HX5.out.below l7)
  have HY7 := Lib.hid (HY5.out.below l7)
  have HP7 := Lib.hid (HP5.out.below l7)
  have HB7 := Lib.hid (below_on HB5.out HW.out l7)
  have HC7 := Lib.hid (hc6.below b7)
  rw [noLit_eq] at HX7 HY7 HP7 HB7 HC7
  unfold noLit at HX7 HY7 HP7 HB7 HC7
  clear X3 he hc6 hl6 b7 l7 HX5 HY5 HP5 HB5
  go_upto_region 7 with fail
  generalize w6.alloc (.cells #[.int .u16 0, .int .u8 0, .int .u8 0, .int .u8 0, .int .u8 0, .int .u8 0, .int .u8 0, .int .u32 0, .int .u8 0, .int .u8 0, .int .u8 0, .int .u8 0, .int .u8 0, .int .u8 0, .int .u32 0] 29) = W7 at *
  have k7 := HY7.out.cell 7 1 rfl
  have z7 := HY7.out.free 7
  go_upto_region 8 with fail
  have HX8 : Hid (PktAt (W7.setCell ⟨b, 7, none⟩ (.int .u8 3)) x shP) := HX7.out.other (Nat.ne_of_gt HBX.out) _ _
  have HY8 : Hid (BytesAt (W7.setCell ⟨b, 7, none⟩ (.int .u8 3)) b (Pkt.bs { shP with op := 3 })) := HY7.out.set 7 3
  have HP8 : Hid (PktAt (W7.setCell ⟨b, 7, none⟩ (.int .u8 3)) n shP) := HP7.out.other (Nat.ne_of_lt HNB.out) _ _
  have HB8 : Hid (Below n w (W7.setCell ⟨b, 7, none⟩ (.int .u8 3))) := HB7.out.setCell (Nat.le_of_lt HNB.out) _
  have HC8 : Hid (Chain (W7.setCell ⟨b, 7, none⟩ (.int .u8 3)) 2 [arpWord, octetsWord] (.iface 76 (.pointer (some ⟨b6, 0, none⟩)))) := HY7.out.chain HC7.out 7 _
  clear k7 z7 HX7 HY7 HP7 HB7 HC7
  generalize W7.setCell ⟨b, 7, none⟩ (.int .u8 3) = W8 at *
  have X4 := Lib.hid (aParse_form (.slice (some ⟨b, 0, none⟩) 28 28) { shP with op := 3 } [] W8 ⟨by decide, by decide, by decide⟩ (by decide) (by decide) (by decide) HY8.out.rd)
  go_wp2_with fail
  refine X4.out.mono ?_
  rintro e w9 ⟨b9, he, hc9, hl9⟩
  have he' : e = .returned (.tuple #[.agg #[.int .u16 0, .int .u8 0, .int .u8 0, .int .u8 0, .int .u8 0, .int .u8 0, .int .u8 0, .int .u32 0, .int .u8 0, .int .u8 0, .int .u8 0, .int .u8 0, .int .u8 0, .int .u8 0, .int .u32 0], .iface 76 (.pointer (some ⟨b9, 0, none⟩))]) := he
  subst he'
  have b10 := below_al (Below.refl w9.heap.size w9) noPkt.obj
  have l10 := below_to hl9 b10 hl9.size
  have HX10 := Lib.hid (HX8.out.below l10)
  have HY10 := Lib.hid (HY8.out.below l10)
  have HP10 := Lib.hid (HP8.out.below l10)
  have HB10 := Lib.hid (below_on HB8.out HW.out l10)
  have HC10 := Lib.hid (HC8.out.below l10)
  have HD10 := Lib.hid (hc9.below b10)
  rw [noLit_eq] at HX10 HY10 HP10 HB10 HC10 HD10
  unfold noLit at HX10 HY10 HP10 HB10 HC10 HD10
  clear X4 he hc9 hl9 b10 l10 HX8 HY8 HP8 HB8 HC8
  go_upto_region 9 with fail
  generalize w9.alloc (.cells #[.int .u16 0, .int .u8 0, .int .u8 0, .int .u8 0, .int .u8 0, .int .u8 0, .int .u8 0, .int .u32 0, .int .u8 0, .int .u8 0, .int .u8 0, .int .u8 0, .int .u8 0, .int .u8 0, .int .u32 0] 29) = W10 at *
  have k0 := HY10.out.cell 0 0 rfl
  have z0 := HY10.out.free 0
  go_upto_region 10 with fail
  have HX11 : Hid (PktAt (W10.setCell ⟨b, 0, none⟩ (.int .u8 1)) x shP) := HX10.out.other (Nat.ne_of_gt HBX.out) _ _
  have HY11 : Hid (BytesAt (W10.setCell ⟨b, 0, none⟩ (.int .u8 1)) b ([1, 1, 8, 0, 6, 4] ++ (be2 3 ++ (shP.sha.bs ++ (be4 shP.spa ++ (shP.tha.bs ++ (be4 shP.tpa ++ []))))))) := HY10.out.set 0 1
  have HP11 : Hid (PktAt (W10.setCell ⟨b, 0, none⟩ (.int .u8 1)) n shP) := HP10.out.other (Nat.ne_of_lt HNB.out) _ _
  have HB11 : Hid (Below n w (W10.setCell ⟨b, 0, none⟩ (.int .u8 1))) := HB10.out.setCell (Nat.le_of_lt HNB.out) _
  have HC11 : Hid (Chain (W10.setCell ⟨b, 0, none⟩ (.int .u8 1)) 2 [arpWord, octetsWord] (.iface 76 (.pointer (some ⟨b6, 0, none⟩)))) := HY10.out.chain HC10.out 0 _
  have HD11 : Hid (Chain (W10.setCell ⟨b, 0, none⟩ (.int .u8 1)) 3 [arpWord] (.iface 76 (.pointer (some ⟨b9, 0, none⟩)))) := HY10.out.chain HD10.out 0 _
  clear k0 z0 HX10 HY10 HP10 HB10 HC10 HD10
  generalize W10.setCell ⟨b, 0, none⟩ (.int .u8 1) = W11 at *
  have X5 := Lib.hid (aParse_proto (.slice (some ⟨b, 0, none⟩) 28 28) [1, 1, 8, 0, 6, 4] { shP with op := 3 } [] W11 rfl ⟨by decide, by decide, by decide⟩ (by decide) (by decide) HY11.out.rd)
  go_wp2_with fail
  refine X5.out.mono ?_
  rintro e w12 ⟨b12, he, hc12, hl12⟩
  have he' : e = .returned (.tuple #[.agg #[.int .u16 0, .int .u8 0, .int .u8 0, .int .u8 0, .int .u8 0, .int .u8 0, .int .u8 0, .int .u32 0, .int .u8 0, .int .u8 0, .int .u8 0, .int .u8 0, .int .u8 0, .int .u8 0, .int .u32 0], .iface 76 (.pointer (some ⟨b12, 0, none⟩))]) := he
  subst he'
  have b13 := below_al (Below.refl w12.heap.size w12) noPkt.obj
  have l13 := below_to hl12 b13 hl12.size
  have HX13 := Lib.hid (HX11.out.below l13)
  have HP13 := Lib.hid (HP11.out.below l13)
  have HB13 := Lib.hid (below_on HB11.out HW.out l13)
  have HC13 := Lib.hid (HC11.out.below l13)
  have HD13 := Lib.hid (HD11.out.below l13)
  have HE13 := Lib.hid (hc12.below b13)
  rw [noLit_eq] at HX13 HP13 HB13 HC13 HD13 HE13
  unfold noLit at HX13 HP13 HB13 HC13 HD13 HE13
  clear X5 he hc12 hl12 b13 l13 HX11 HY11 HP11 HB11 HC11 HD11
  go_upto_region 11 with fail
  generalize w12.alloc (.cells #[.int .u16 0, .int .u8 0, .int .u8 0, .int .u8 0, .int .u8 0, .int .u8 0, .int .u8 0, .int .u32 0, .int .u8 0, .int .u8 0, .int .u8 0, .int .u8 0, .int .u8 0, .int .u8 0, .int .u32 0] 29) = W13 at *
  obtain ⟨c0, c1, c2, c3, c4, c5, c6, c7, c8, c9, c10, c11, c12, c13, c14⟩ := HX13.out.cells
  obtain ⟨d0, d1, d2, d3, d4, d5, d6, d7, d8, d9, d10, d11, d12, d13, d14⟩ := HP13.out.cells
  have q1 := mac_same9 shP.sha W13
  have q2 := mac_same9 shP.tha W13
  have XT := Lib.hid (told_arp (m := 2) (by omega) (by decide) HC13.out ⟨#[97, 114, 112, 58, 32, 111, 99, 116, 101, 116, 115, 58, 32, 101, 114, 114, 111, 114, 32, 50]⟩ (by decide))
  go_wp2_with fail
  refine XT.out.mono ?_
  rintro e w14 ⟨rfl, hl14⟩
  clear c0 c1 c2 c3 c4 c5 c6 c7 c8 c9 c10 c11 c12 c13 c14 d0 d1 d2 d3 d4 d5 d6 d7 d8 d9 d10 d11 d12 d13 d14 q1 q2 XT
  have HB14 := Lib.hid (below_on HB13.out HW.out hl14)
  have XC := Lib.hid (code_any 3 _ _ _ (HG.out.below (by rw [HW.out]; exact HB14.out)) (HD13.out.below hl14))
  have HE14 := Lib.hid (HE13.out.below hl14)
  clear hl14
  go_wp2_with fail
  refine XC.out.mono ?_
  rintro e w15 ⟨rfl, hl15⟩
  have HB15 := Lib.hid (below_on HB14.out HW.out hl15)
  have XD := Lib.hid (code_any 12 _ _ _ (HG.out.below (by rw [HW.out]; exact HB15.out)) (HE14.out.below hl15))
  clear hl15 XC
  go_wp2_with fail
  refine XD.out.mono ?_
  rintro e w16 ⟨rfl, hl16⟩
  have HB16 := Lib.hid (below_on HB15.out HW.out hl16)
  clear hl16 XD
  go_wp2_with fail
  go_ret
  exact ⟨rfl, by rw [HW.out]; exact HB16.out⟩
end Go.Proofs.YthinmonahnbkdaaDoor
