/-
  What is proved: 'few' of the laws of layer 5 by contract: the packet with at most its first three thousand bytes, in a row of its own.
  Conditions: the bytes' capacity is an int.
-/
import Derived.Test.YtbielhdmikcngaaDoorVShown
import Derived.Test.YtbielhdmikcngaaDoorVLift
namespace Go.Proofs.YtbielhdmikcngaaDoor
open Go.RowKit

def Ip.few (p : Ip) : Ip := { p with b := p.b.take 3000 }
theorem Ip.few_in {p : Ip} (h : p.Fit) : p.few.In := h.inn _ (by rw [List.length_take]; omega)
/-- What few tells. -/
def FewTold (p : Ip) (w : World) (e : Ending) (w' : World) : Prop :=
  ∃ g c, e = .returned (.agg #[.int .u8 p.tos, .int .u16 p.id, .bool p.df, .bool p.mf, .int .i64 p.off, .int .u8 p.ttl, .int .u8 p.proto, .int .u32 p.src, .int .u32 p.dst, .slice (some ⟨g, 0, none⟩) p.few.b.length c]) ∧ Rd w' (.slice (some ⟨g, 0, none⟩) p.few.b.length c) p.few.b ∧ w.heap.size ≤ g ∧ Below w.heap.size w w'
theorem front_any {w : World} {A : Option Addr} {c : Nat} {bs : List UInt8} (h : Rd w (.slice A bs.length c) bs) (k : Nat) : Rd w (.slice A (bs.take k).length c) (bs.take k) := by
  by_cases hk : k ≤ bs.length
  · have e : (bs.take k).length = k := by rw [List.length_take]; omega
    rw [e]
    exact h.front hk
  · rw [List.take_of_length_le (by omega)]
    exact h
theorem rd_row {W : World} {G n c : Nat} {bs : List UInt8} (h : Rd W (.slice (some ⟨G, 0, none⟩) n c) bs) {g : Nat} (hne : G ≠ g) (cs : Array Value) : Rd (W.setRow g cs) (.slice (some ⟨G, 0, none⟩) n c) bs := by
  obtain ⟨A, c', e, hc, hi⟩ := h
  refine ⟨A, c', e, hc, fun h0 => ?_⟩
  obtain ⟨g', o, e1, hi⟩ := hi h0
  refine ⟨g', o, e1, fun j u hu => ?_⟩
  cases e
  cases e1
  rw [World.cell?_of_block (setRow_other W g cs hne)]
  exact hi j u hu
set_option maxRecDepth 100000 in
set_option maxHeartbeats 2000000 in
theorem few_any (p : Ip) (A : Option Addr) (c : Nat) (w : World) (hr : Rd w (.slice A p.b.length c) p.b) (hcc : c ≤ 9223372036854775807) :
    Calls Tryd.prog 10 #[p.val (.slice A p.b.length c)] w (FewTold p w) := by
  have hx := IpAt.new w p (.slice A p.b.length c)
  have hn : Below (w.alloc (p.obj (.slice A p.b.length c))).heap.size (w.alloc (p.obj (.slice A p.b.length c))) ((w.alloc (p.obj (.slice A p.b.length c))).alloc noIpObj) := below_al (Below.refl _ _) _
  have hw : Below w.heap.size w ((w.alloc (p.obj (.slice A p.b.length c))).alloc noIpObj) := below_al (below_al (Below.refl _ _) _) _
  have hz : ((w.alloc (p.obj (.slice A p.b.length c))).alloc noIpObj).heap[w.heap.size + 1]? = some noIpObj := by
    have := heap_alloc_new (w.alloc (p.obj (.slice A p.b.length c))) noIpObj
    simpa using this
  have hcap := hr.cap_le
  have hx2 := hx.below hn
  have hr2 := (front_any hr 3000).below hw
  have hF : p.few.b = p.b.take 3000 := rfl
  have hmin := fun ats ty W => min_run (P := Tryd.prog) ats ty (p.b.length : Int) 3000 ((p.b.take 3000).length : Nat) (by rw [List.length_take]; omega) W
  have hkl : (p.b.take 3000).length ≤ p.b.length := by rw [List.length_take]; omega
  have hk3 : (p.b.take 3000).length ≤ 3000 := by rw [List.length_take]; omega
  unfold FewTold
  rw [hF]
  clear hF hn hx hr
  generalize hW : (w.alloc (p.obj (.slice A p.b.length c))).alloc noIpObj = W at *
  unfold Ip.obj noIpObj at hW
  obtain ⟨g', c', W1, run1, mine1, hg1, _, _⟩ := (Mine.first (Below.refl W.heap.size W)).append (p.b.take 3000) _ (hr2.below (below_al (Below.refl _ _) _)) (by simp; omega)
  rw [List.nil_append] at run1 mine1
  rw [Ip.val_lit]
  generalize p.b.take 3000 = bs at *
  generalize hL : p.b.length = L at *
  have HB1 := Lib.hid (below_to hw mine1.old hw.size)
  have HX1 := Lib.hid (hx2.below mine1.old)
  have HZ1 := Lib.hid (be_block mine1.old hz)
  have HM := Lib.hid mine1.rd
  have HN : Hid (w.heap.size + 1 < W.heap.size ∧ W.heap.size ≤ g') := ⟨(Array.getElem?_eq_some_iff.1 hz).1, mine1.new⟩
  obtain ⟨c0, c1, c2, c3, c4, c5, c6, c7, c8, c9⟩ := hx2.cells
  have hk1 : ((bs.length : Nat) : Int) ≤ (L : Int) := by omega
  clear hw mine1 hg1 hr2 hz hx2 hL
  go_enter Tryd.func10, Tryd.ntmps10
  go_upto_region 1 with fail
  (try rw [hW])
  clear hW
  have E1 := Lib.hid run1
  have nA : Below W.heap.size W (W.alloc (.cells #[] 5)) := below_al (Below.refl _ _) _
  have e9 : (W.alloc (.cells #[] 5)).cell? ⟨w.heap.size, 9, none⟩ = some (.slice A L c) := cell_later nA c9
  have d9 := HX1.out.cells.2.2.2.2.2.2.2.2.2
  have f9 := HX1.out.free 9
  clear run1 c0 c1 c2 c3 c4 c5 c6 c7 c8 nA
  go_upto_region 2 with (at_builtin; refine wpList_append_eq rfl (.tmp 3) (.tmp 10) 22 rfl _ _ rfl rfl _ _ E1.out ?_)
  clear c9 e9 d9 f9 E1 hmin
  have HX2 := Lib.hid (set9_10 HX1.out (.slice (some ⟨g', 0, none⟩) bs.length c'))
  have HZ2 : Hid (IpAt _ (w.heap.size + 1) noIp (.slice none 0 0)) := set_block (i := 9) HZ1.out (show w.heap.size + 1 ≠ w.heap.size by omega) (.slice (some ⟨g', 0, none⟩) bs.length c')
  have HM2 := Lib.hid (rd_set HM.out (show g' ≠ w.heap.size by have := HN.out; omega) 9 (.slice (some ⟨g', 0, none⟩) bs.length c'))
  have HB2 := Lib.hid (HB1.out.setCell (p := ⟨w.heap.size, 9, none⟩) (Nat.le_refl _) (.slice (some ⟨g', 0, none⟩) bs.length c'))
  clear HX1 HZ1 HM HB1
  generalize W1.setCell ⟨w.heap.size, 9, none⟩ (.slice (some ⟨g', 0, none⟩) bs.length c') = W2 at *
  obtain ⟨d0, d1, d2, d3, d4, d5, d6, d7, d8, d9⟩ := cells10 HX2.out
  go_wp2_with (refine wpList_store_row rfl 27 (.tmp 2) (.tmp 13) rfl (w.heap.size + 1) (p.row (.slice (some ⟨g', 0, none⟩) bs.length c')) rfl rfl 27 _ HZ2.out ipSize rfl (ipRow_one _ _ _ _) ?_)
  (try simp only [Exit.inBlock, Exit.then])
  refine bodyPost_ret (results_cell_row rfl _ _ (w.heap.size + 1) _ (p.row (.slice (some ⟨g', 0, none⟩) bs.length c')) (0, 0) _ rfl (setRow_heap _ _ _ _ _ _ HZ2.out) Tryd.underlying27 rfl ipSize) rfl ?_
  have n1 := HN.out
  refine ⟨g', c', rfl, rd_row HM2.out (by omega) _, by omega, ((Fr.of_below (p := fun a => a.block = w.heap.size + 1) HB2.out).then (Fr.of_row W2 (w.heap.size + 1) _) (fun x hx _ => hx)).below (Nat.le_refl _) (fun x hx => by omega)⟩
end Go.Proofs.YtbielhdmikcngaaDoor
