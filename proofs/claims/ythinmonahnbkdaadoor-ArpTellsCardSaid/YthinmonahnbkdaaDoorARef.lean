/-
  What is proved: the document's answer for layer 4 (underpassref04) by contract: Bytes, Parse.
  Conditions: the packet's numbers fit their types; at most a hundred bytes.
-/
import Derived.Test.YthinmonahnbkdaaDoorAKind
import Derived.Test.YthinmonahnbkdaaDoorABk2
import Derived.Test.YthinmonahnbkdaaDoorAOf
import Derived.Test.YthinmonahnbkdaaDoorRNum
import Derived.Test.YthinmonahnbkdaaDoorLex
import Derived.Deep.RegionHeldLaw
import Derived.Deep.RegionLaw
namespace Go.Proofs.YthinmonahnbkdaaDoor
open Go.RowKit

set_option maxRecDepth 100000 in
set_option maxHeartbeats 4000000 in
theorem refABytes (p : Pkt) (hp : p.In) (w : World) :
    Calls Tryd.prog 10 #[.agg #[.int .u32 p.op, .string (txt p.sha.bs), .string (txt p.tha.bs), .int .u32 p.spa, .int .u32 p.tpa]] w fun e w' => e = .returned (.string (txt p.bs)) ∧ Below w.heap.size w w' := by
  have hx : (w.alloc (.cells #[.int .u32 p.op, .string (txt p.sha.bs), .string (txt p.tha.bs), .int .u32 p.spa, .int .u32 p.tpa] 36)).heap[w.heap.size]? = some (.cells #[.int .u32 p.op, .string (txt p.sha.bs), .string (txt p.tha.bs), .int .u32 p.spa, .int .u32 p.tpa] 36) := heap_alloc_new w _
  have hb0 := below_al (Below.refl w.heap.size w) (.cells #[.int .u32 p.op, .string (txt p.sha.bs), .string (txt p.tha.bs), .int .u32 p.spa, .int .u32 p.tpa] 36)
  have HB := Lib.hid (And.intro hb0 hb0.size)
  have HT1 : Hid (∀ W : World, _) := fun W => refText2 p.op W (by have := hp.op; omega)
  have HT2 : Hid (∀ W : World, _) := fun W => refText4 p.spa W hp.spa
  have HT3 : Hid (∀ W : World, _) := fun W => refText4 p.tpa W hp.tpa
  have hf : txt arpHead = ⟨#[0, 1, 8, 0, 6, 4]⟩ := rfl
  have a1 : txt arpHead ++ txt (be2 p.op) = txt (arpHead ++ be2 p.op) := txt_append _ _
  have a2 : txt (arpHead ++ be2 p.op) ++ txt p.sha.bs = txt ((arpHead ++ be2 p.op) ++ p.sha.bs) := txt_append _ _
  have a3 : txt ((arpHead ++ be2 p.op) ++ p.sha.bs) ++ txt (be4 p.spa) = txt (((arpHead ++ be2 p.op) ++ p.sha.bs) ++ be4 p.spa) := txt_append _ _
  have a4 : txt (((arpHead ++ be2 p.op) ++ p.sha.bs) ++ be4 p.spa) ++ txt p.tha.bs = txt ((((arpHead ++ be2 p.op) ++ p.sha.bs) ++ be4 p.spa) ++ p.tha.bs) := txt_append _ _
  have a5 : txt ((((arpHead ++ be2 p.op) ++ p.sha.bs) ++ be4 p.spa) ++ p.tha.bs) ++ txt (be4 p.tpa) = txt p.bs := by rw [txt_append]; simp only [Pkt.bs, List.append_assoc]
  have b1 : (txt (be2 p.op)).size = 2 := txt_size _
  have b2 : (txt p.sha.bs).size = 6 := txt_size _
  have b3 : (txt (be4 p.spa)).size = 4 := txt_size _
  have b4 : (txt p.tha.bs).size = 6 := txt_size _
  have b5 : (txt (be4 p.tpa)).size = 4 := txt_size _
  have g1 : (txt (arpHead ++ be2 p.op)).size = 8 := txt_size _
  have g2 : (txt ((arpHead ++ be2 p.op) ++ p.sha.bs)).size = 14 := txt_size _
  have g3 : (txt (((arpHead ++ be2 p.op) ++ p.sha.bs) ++ be4 p.spa)).size = 18 := txt_size _
  have g4 : (txt ((((arpHead ++ be2 p.op) ++ p.sha.bs) ++ be4 p.spa) ++ p.tha.bs)).size = 24 := txt_size _
  rw [hf] at a1
  have HX := Lib.hid hx
  clear hb0 hx hp hf
  generalize txt p.bs = R at *
  generalize txt ((((arpHead ++ be2 p.op) ++ p.sha.bs) ++ be4 p.spa) ++ p.tha.bs) = S4 at *
  generalize txt (((arpHead ++ be2 p.op) ++ p.sha.bs) ++ be4 p.spa) = S3 at *
  generalize txt ((arpHead ++ be2 p.op) ++ p.sha.bs) = S2 at *
  generalize txt (arpHead ++ be2 p.op) = S1 at *
  generalize txt (be2 p.op) = T1 at *
  generalize txt (be4 p.spa) = T2 at *
  generalize txt (be4 p.tpa) = T3 at *
  generalize txt p.sha.bs = ta at *
  generalize txt p.tha.bs = tb at *
  go_enter Tryd.func10, Tryd.ntmps10
  go_upto_region 1 with fail
  generalize w.alloc (.cells #[.int .u32 p.op, .string ta, .string tb, .int .u32 p.spa, .int .u32 p.tpa] 36) = W0 at *
  generalize hnn : w.heap.size = n at *
  have HNN := Lib.hid hnn
  clear hnn
  have KS : Hid (∀ W, Below W0.heap.size W0 W → W.cell? ⟨n, 0, none⟩ = some (.int .u32 p.op) ∧ W.cell? ⟨n, 1, none⟩ = some (.string ta) ∧ W.cell? ⟨n, 2, none⟩ = some (.string tb) ∧ W.cell? ⟨n, 3, none⟩ = some (.int .u32 p.spa) ∧ W.cell? ⟨n, 4, none⟩ = some (.int .u32 p.tpa)) := fun W h => by
    have k := (h.block _ (Array.getElem?_eq_some_iff.1 HX.out).1).trans HX.out
    refine ⟨?_, ?_, ?_, ?_, ?_⟩ <;> (rw [cell_of_row W n _ _ _ _ k]; rfl)
  go_region_held_law (fun W => W.cell? ⟨n, 0, none⟩ = some (.int .u32 p.op) ∧ W.cell? ⟨n, 1, none⟩ = some (.string ta) ∧ W.cell? ⟨n, 2, none⟩ = some (.string tb) ∧ W.cell? ⟨n, 3, none⟩ = some (.int .u32 p.spa) ∧ W.cell? ⟨n, 4, none⟩ = some (.int .u32 p.tpa))
    (first | assumption | exact KS.out _ HL3.out | exact KS.out _ HL2.out | exact KS.out _ HL1.out | exact KS.out _ (below_drew W0))
    (first
      | (go_at_call 26; (with_reducible refine (HT1.out _).mono ?_); rintro e w2 ⟨rfl, hl⟩; (have HL1 := Lib.hid ((below_drew W0).trans hl)); clear hl)
      | (go_at_call 26; (with_reducible refine (HT2.out _).mono ?_); rintro e w3 ⟨rfl, hl⟩; (have HL2 := Lib.hid (below_to HL1.out hl HL1.out.size)); clear hl)
      | (go_at_call 26; (with_reducible refine (HT3.out _).mono ?_); rintro e w4 ⟨rfl, hl⟩; (have HL3 := Lib.hid (below_to HL2.out hl HL2.out.size)); clear hl))
  all_goals
    go_wp2_with fail
    go_ret
    exact ⟨rfl, by rw [HNN.out]; exact below_to HB.out.1 HL3.out HB.out.2⟩

theorem atxt_mid (bs : List UInt8) (a b : Nat) : (txt bs).extract a b = txt ((bs.drop a).take (b - a)) := by
  apply ByteArray.ext
  rw [ByteArray.data_extract]
  simp [txt, List.extract_eq_take_drop]
theorem atxt_list (a : List UInt8) : (txt a).toList = a := ByteArray.toList_mk a
theorem aNum2 (n : Nat) (h : n < 65536) (W : World) : Calls Tryd.prog 21 #[.string (txt (be2 n))] W fun e w' => e = .returned (.int .u32 (n : Int)) ∧ W = w' := by
  have k := refNum2 (UInt8.ofNat (n / 256)) (UInt8.ofNat n) W
  have e : (UInt8.ofNat (n / 256)).toNat * 256 + (UInt8.ofNat n).toNat = n := by rw [ofNat_lt, ofNat_lt]; omega
  rw [e] at k
  exact k
theorem aNum4 (n : Nat) (h : n < 4294967296) (W : World) : Calls Tryd.prog 21 #[.string (txt (be4 n))] W fun e w' => e = .returned (.int .u32 (n : Int)) ∧ W = w' := by
  have k := refNum4 (UInt8.ofNat (n / 16777216)) (UInt8.ofNat (n / 65536)) (UInt8.ofNat (n / 256)) (UInt8.ofNat n) W
  have e : (((UInt8.ofNat (n / 16777216)).toNat * 256 + (UInt8.ofNat (n / 65536)).toNat) * 256 + (UInt8.ofNat (n / 256)).toNat) * 256 + (UInt8.ofNat n).toNat = n := by
    rw [ofNat_lt, ofNat_lt, ofNat_lt, ofNat_lt]
    omega
  rw [e] at k
  exact k
/-- The operations of Parse's last region: what each writes, looks at, waits for. -/
def raLex : List (Option Nat × List Nat × List Nat) := [(some 23, [4], []), (some 24, [0], []), (some 25, [24], [1]), (some 26, [0], []), (some 27, [26], [3]), (some 28, [27], [4]), (some 29, [0], []), (some 30, [29], [6]), (some 31, [0], []), (some 32, [31], [8]), (some 33, [32], [9, 5]), (some 34, [23, 25, 28, 30, 33], [0, 2, 5, 7, 10]), (none, [2, 34], [11, 10, 0, 1, 2, 3, 4, 5, 6, 7, 8, 9, 10, 11]), (some 3, [], [12, 0, 1, 2, 3, 4, 5, 6, 7, 8, 9, 10, 11, 12])]
def RaErr (t : ByteArray) (w : World) (e : Ending) (w' : World) : Prop := e = .returned (.tuple #[.agg #[.int .u32 0, .string ⟨#[]⟩, .string ⟨#[]⟩, .int .u32 0, .int .u32 0], .string t]) ∧ Below w.heap.size w w'
def RaOk (p : Pkt) (w : World) (e : Ending) (w' : World) : Prop := e = .returned (.tuple #[.agg #[.int .u32 p.op, .string (txt p.sha.bs), .string (txt p.tha.bs), .int .u32 p.spa, .int .u32 p.tpa], .string ⟨#[]⟩]) ∧ Below w.heap.size w w'
theorem raZ_one : (#[.int .u32 0, .string ⟨#[]⟩, .string ⟨#[]⟩, .int .u32 0, .int .u32 0] : Array Value).all (·.oneCell') = true := by simp [Value.oneCell']
set_option maxRecDepth 100000 in
set_option maxHeartbeats 4000000 in
theorem refAParse_short (l : List UInt8) (hl : l.length < 28) (w : World) :
    Calls Tryd.prog 6 #[.string (txt l)] w (RaErr ⟨#[97, 114, 112, 58, 32, 111, 99, 116, 101, 116, 115, 58, 32, 101, 114, 114, 111, 114, 32, 50]⟩ w) := by
  have HZ := Lib.hid (heap_alloc_new w (.cells #[.int .u32 0, .string ⟨#[]⟩, .string ⟨#[]⟩, .int .u32 0, .int .u32 0] 36))
  have HB := Lib.hid (below_al (Below.refl w.heap.size w) (.cells #[.int .u32 0, .string ⟨#[]⟩, .string ⟨#[]⟩, .int .u32 0, .int .u32 0] 36))
  have hz : (txt l).size < 28 := by rw [txt_size]; exact hl
  generalize txt l = tl at *
  clear hl
  unfold RaErr
  go_enter Tryd.func6, Tryd.ntmps6
  go_upto_region 1 with fail
  generalize w.alloc (.cells #[.int .u32 0, .string ⟨#[]⟩, .string ⟨#[]⟩, .int .u32 0, .int .u32 0] 36) = W0 at *
  generalize hnn : w.heap.size = n at HZ ⊢
  have HNN := Lib.hid hnn
  clear hnn
  go_wp2_with (refine wpList_store_row rfl 36 (.tmp 2) (.tmp 8) rfl n #[.int .u32 0, .string ⟨#[]⟩, .string ⟨#[]⟩, .int .u32 0, .int .u32 0] rfl rfl 36 _ HZ.out refPktSize rfl raZ_one ?_)
  (try simp only [Exit.inBlock, Exit.then])
  refine bodyPost_ret (results_cell_tmp_row rfl _ _ n _ #[.int .u32 0, .string ⟨#[]⟩, .string ⟨#[]⟩, .int .u32 0, .int .u32 0] (0, 0) _ rfl (setRow_heap _ _ _ _ _ _ HZ.out) Tryd.underlying36 rfl refPktSize) rfl ?_
  exact ⟨rfl, below_arow HB.out (by rw [HNN.out]; exact Nat.le_refl _) _⟩
set_option maxRecDepth 100000 in
set_option maxHeartbeats 4000000 in
theorem refAParse_head (hd : M6) (p : Pkt) (_hp : p.In) (r : List UInt8) (hr : r.length ≤ 72) (h1 : hd.bs ≠ arpHead) (w : World) :
    Calls Tryd.prog 6 #[.string (txt (hd.bs ++ (be2 p.op ++ (p.sha.bs ++ (be4 p.spa ++ (p.tha.bs ++ (be4 p.tpa ++ r)))))))] w (RaErr ⟨#[97, 114, 112, 58, 32, 101, 114, 114, 111, 114, 32, 49, 50]⟩ w) := by
  have HZ := Lib.hid (heap_alloc_new w (.cells #[.int .u32 0, .string ⟨#[]⟩, .string ⟨#[]⟩, .int .u32 0, .int .u32 0] 36))
  have HB := Lib.hid (below_al (Below.refl w.heap.size w) (.cells #[.int .u32 0, .string ⟨#[]⟩, .string ⟨#[]⟩, .int .u32 0, .int .u32 0] 36))
  obtain ⟨N, hN⟩ : ∃ N, 28 + r.length = N := ⟨_, rfl⟩
  have n1 : 28 ≤ N := by omega
  have n2 : N ≤ 100 := by omega
  have n3 : decide (N < 28) = false := decide_eq_false (by omega)
  have n4 : (28 : Int) ≤ (N : Int) := by omega
  have n5 : (N : Int) ≤ 100 := by omega
  have n6 : ¬ (N : Int) < 6 := by omega
  have n7 : ¬ (N : Int) < 8 := by omega
  have n8 : ¬ (N : Int) < 14 := by omega
  have n9 : ¬ (N : Int) < 18 := by omega
  have n10 : ¬ (N : Int) < 24 := by omega
  have n11 : ¬ (N : Int) < 28 := by omega
  have hz : (txt (hd.bs ++ (be2 p.op ++ (p.sha.bs ++ (be4 p.spa ++ (p.tha.bs ++ (be4 p.tpa ++ r))))))).size = N := by rw [txt_size, ← hN]; simp only [List.length_append, mac_bs_len, be2_len, be4_len]; omega
  have x06 : (txt (hd.bs ++ (be2 p.op ++ (p.sha.bs ++ (be4 p.spa ++ (p.tha.bs ++ (be4 p.tpa ++ r))))))).extract 0 6 = txt hd.bs := by rw [atxt_mid]; rfl
  have h6 : ((txt hd.bs).toList == (⟨#[0, 1, 8, 0, 6, 4]⟩ : ByteArray).toList) = false := by
    rw [atxt_list, show (⟨#[0, 1, 8, 0, 6, 4]⟩ : ByteArray) = txt arpHead from rfl, atxt_list]
    simpa using h1
  have h7 : ((txt hd.bs).toList == [0, 1, 8, 0, 6, 4]) = false := by
    rw [atxt_list]
    simpa [arpHead] using h1
  generalize txt hd.bs = t06 at *
  clear h1 hN
  generalize txt (hd.bs ++ (be2 p.op ++ (p.sha.bs ++ (be4 p.spa ++ (p.tha.bs ++ (be4 p.tpa ++ r)))))) = tl at *
  clear _hp
  unfold RaErr
  go_enter Tryd.func6, Tryd.ntmps6
  go_upto_region 1 with fail
  generalize w.alloc (.cells #[.int .u32 0, .string ⟨#[]⟩, .string ⟨#[]⟩, .int .u32 0, .int .u32 0] 36) = W0 at *
  generalize hnn : w.heap.size = n at HZ ⊢
  have HNN := Lib.hid hnn
  clear hnn
  go_wp2_with (refine wpList_store_row rfl 36 (.tmp 2) (.tmp 12) rfl n #[.int .u32 0, .string ⟨#[]⟩, .string ⟨#[]⟩, .int .u32 0, .int .u32 0] rfl rfl 36 _ HZ.out refPktSize rfl raZ_one ?_)
  (try simp only [Exit.inBlock, Exit.then])
  refine bodyPost_ret (results_cell_tmp_row rfl _ _ n _ #[.int .u32 0, .string ⟨#[]⟩, .string ⟨#[]⟩, .int .u32 0, .int .u32 0] (0, 0) _ rfl (setRow_heap _ _ _ _ _ _ HZ.out) Tryd.underlying36 rfl refPktSize) rfl ?_
  exact ⟨rfl, below_arow HB.out (by rw [HNN.out]; exact Nat.le_refl _) _⟩
set_option maxRecDepth 100000 in
set_option maxHeartbeats 4000000 in
theorem refAParse_form (hd : M6) (p : Pkt) (hp : p.In) (r : List UInt8) (hr : r.length ≤ 72) (h1 : hd.bs = arpHead) (h2 : p.op ≠ 1) (h3 : p.op ≠ 2) (w : World) :
    Calls Tryd.prog 6 #[.string (txt (hd.bs ++ (be2 p.op ++ (p.sha.bs ++ (be4 p.spa ++ (p.tha.bs ++ (be4 p.tpa ++ r)))))))] w (RaErr ⟨#[97, 114, 112, 58, 32, 101, 114, 114, 111, 114, 32, 51]⟩ w) := by
  have HZ := Lib.hid (heap_alloc_new w (.cells #[.int .u32 0, .string ⟨#[]⟩, .string ⟨#[]⟩, .int .u32 0, .int .u32 0] 36))
  have HB := Lib.hid (below_al (Below.refl w.heap.size w) (.cells #[.int .u32 0, .string ⟨#[]⟩, .string ⟨#[]⟩, .int .u32 0, .int .u32 0] 36))
  obtain ⟨N, hN⟩ : ∃ N, 28 + r.length = N := ⟨_, rfl⟩
  have n1 : 28 ≤ N := by omega
  have n2 : N ≤ 100 := by omega
  have n3 : decide (N < 28) = false := decide_eq_false (by omega)
  have n4 : (28 : Int) ≤ (N : Int) := by omega
  have n5 : (N : Int) ≤ 100 := by omega
  have n6 : ¬ (N : Int) < 6 := by omega
  have n7 : ¬ (N : Int) < 8 := by omega
  have n8 : ¬ (N : Int) < 14 := by omega
  have n9 : ¬ (N : Int) < 18 := by omega
  have n10 : ¬ (N : Int) < 24 := by omega
  have n11 : ¬ (N : Int) < 28 := by omega
  have hz : (txt (hd.bs ++ (be2 p.op ++ (p.sha.bs ++ (be4 p.spa ++ (p.tha.bs ++ (be4 p.tpa ++ r))))))).size = N := by rw [txt_size, ← hN]; simp only [List.length_append, mac_bs_len, be2_len, be4_len]; omega
  have x06 : (txt (hd.bs ++ (be2 p.op ++ (p.sha.bs ++ (be4 p.spa ++ (p.tha.bs ++ (be4 p.tpa ++ r))))))).extract 0 6 = txt hd.bs := by rw [atxt_mid]; rfl
  have h6 : ((txt hd.bs).toList == (⟨#[0, 1, 8, 0, 6, 4]⟩ : ByteArray).toList) = true := by
    rw [atxt_list, show (⟨#[0, 1, 8, 0, 6, 4]⟩ : ByteArray) = txt arpHead from rfl, atxt_list]
    rw [h1]; rfl
  have h7 : ((txt hd.bs).toList == [0, 1, 8, 0, 6, 4]) = true := by
    rw [atxt_list]
    rw [h1]; rfl
  have x68 : (txt (hd.bs ++ (be2 p.op ++ (p.sha.bs ++ (be4 p.spa ++ (p.tha.bs ++ (be4 p.tpa ++ r))))))).extract 6 8 = txt (be2 p.op) := by rw [atxt_mid]; rfl
  obtain ⟨O, hO⟩ : ∃ O : Int, (p.op : Int) = O := ⟨_, rfl⟩
  have HN68 : Hid (∀ W, Calls Tryd.prog 21 #[.string (txt (be2 p.op))] W fun e w' => e = .returned (.int .u32 O) ∧ W = w') := fun W => by rw [← hO]; exact aNum2 p.op hp.op W
  generalize txt (be2 p.op) = t68 at *
  have o11 : (O == 1) = false := by simp; omega
  have o12 : (O != 1) = true := by simp; omega
  have o21 : (O == 2) = false := by simp; omega
  have o22 : (O != 2) = true := by simp; omega
  generalize txt hd.bs = t06 at *
  clear h1 hN
  generalize txt (hd.bs ++ (be2 p.op ++ (p.sha.bs ++ (be4 p.spa ++ (p.tha.bs ++ (be4 p.tpa ++ r)))))) = tl at *
  clear hp hO h2 h3
  unfold RaErr
  go_enter Tryd.func6, Tryd.ntmps6
  go_upto_region 1 with fail
  generalize w.alloc (.cells #[.int .u32 0, .string ⟨#[]⟩, .string ⟨#[]⟩, .int .u32 0, .int .u32 0] 36) = W0 at *
  generalize hnn : w.heap.size = n at HZ ⊢
  have HNN := Lib.hid hnn
  clear hnn
  go_wp2_with (first | (refine wpList_store_row rfl 36 (.tmp 2) (.tmp 22) rfl n #[.int .u32 0, .string ⟨#[]⟩, .string ⟨#[]⟩, .int .u32 0, .int .u32 0] rfl rfl 36 _ HZ.out refPktSize rfl raZ_one ?_) | (go_at_call 21; refine (HN68.out _).mono ?_; rintro e wq ⟨rfl, rfl⟩))
  (try simp only [Exit.inBlock, Exit.then])
  refine bodyPost_ret (results_cell_tmp_row rfl _ _ n _ #[.int .u32 0, .string ⟨#[]⟩, .string ⟨#[]⟩, .int .u32 0, .int .u32 0] (0, 0) _ rfl (setRow_heap _ _ _ _ _ _ HZ.out) Tryd.underlying36 rfl refPktSize) rfl ?_
  exact ⟨rfl, below_arow HB.out (by rw [HNN.out]; exact Nat.le_refl _) _⟩
set_option maxRecDepth 100000 in
set_option maxHeartbeats 4000000 in
theorem refAParse_ok (hd : M6) (p : Pkt) (hp : p.In) (r : List UInt8) (hr : r.length ≤ 72) (h1 : hd.bs = arpHead) (h2 : p.op = 1 ∨ p.op = 2) (w : World) :
    Calls Tryd.prog 6 #[.string (txt (hd.bs ++ (be2 p.op ++ (p.sha.bs ++ (be4 p.spa ++ (p.tha.bs ++ (be4 p.tpa ++ r)))))))] w (RaOk p w) := by
  have HZ := Lib.hid (heap_alloc_new w (.cells #[.int .u32 0, .string ⟨#[]⟩, .string ⟨#[]⟩, .int .u32 0, .int .u32 0] 36))
  have HB := Lib.hid (below_al (Below.refl w.heap.size w) (.cells #[.int .u32 0, .string ⟨#[]⟩, .string ⟨#[]⟩, .int .u32 0, .int .u32 0] 36))
  obtain ⟨N, hN⟩ : ∃ N, 28 + r.length = N := ⟨_, rfl⟩
  have n1 : 28 ≤ N := by omega
  have n2 : N ≤ 100 := by omega
  have n3 : decide (N < 28) = false := decide_eq_false (by omega)
  have n4 : (28 : Int) ≤ (N : Int) := by omega
  have n5 : (N : Int) ≤ 100 := by omega
  have n6 : ¬ (N : Int) < 6 := by omega
  have n7 : ¬ (N : Int) < 8 := by omega
  have n8 : ¬ (N : Int) < 14 := by omega
  have n9 : ¬ (N : Int) < 18 := by omega
  have n10 : ¬ (N : Int) < 24 := by omega
  have n11 : ¬ (N : Int) < 28 := by omega
  have hz : (txt (hd.bs ++ (be2 p.op ++ (p.sha.bs ++ (be4 p.spa ++ (p.tha.bs ++ (be4 p.tpa ++ r))))))).size = N := by rw [txt_size, ← hN]; simp only [List.length_append, mac_bs_len, be2_len, be4_len]; omega
  have x06 : (txt (hd.bs ++ (be2 p.op ++ (p.sha.bs ++ (be4 p.spa ++ (p.tha.bs ++ (be4 p.tpa ++ r))))))).extract 0 6 = txt hd.bs := by rw [atxt_mid]; rfl
  have h6 : ((txt hd.bs).toList == (⟨#[0, 1, 8, 0, 6, 4]⟩ : ByteArray).toList) = true := by
    rw [atxt_list, show (⟨#[0, 1, 8, 0, 6, 4]⟩ : ByteArray) = txt arpHead from rfl, atxt_list]
    rw [h1]; rfl
  have h7 : ((txt hd.bs).toList == [0, 1, 8, 0, 6, 4]) = true := by
    rw [atxt_list]
    rw [h1]; rfl
  have x68 : (txt (hd.bs ++ (be2 p.op ++ (p.sha.bs ++ (be4 p.spa ++ (p.tha.bs ++ (be4 p.tpa ++ r))))))).extract 6 8 = txt (be2 p.op) := by rw [atxt_mid]; rfl
  obtain ⟨O, hO⟩ : ∃ O : Int, (p.op : Int) = O := ⟨_, rfl⟩
  have HN68 : Hid (∀ W, Calls Tryd.prog 21 #[.string (txt (be2 p.op))] W fun e w' => e = .returned (.int .u32 O) ∧ W = w') := fun W => by rw [← hO]; exact aNum2 p.op hp.op W
  generalize txt (be2 p.op) = t68 at *
  have x814 : (txt (hd.bs ++ (be2 p.op ++ (p.sha.bs ++ (be4 p.spa ++ (p.tha.bs ++ (be4 p.tpa ++ r))))))).extract 8 14 = txt p.sha.bs := by rw [atxt_mid]; rfl
  have x1418 : (txt (hd.bs ++ (be2 p.op ++ (p.sha.bs ++ (be4 p.spa ++ (p.tha.bs ++ (be4 p.tpa ++ r))))))).extract 14 18 = txt (be4 p.spa) := by rw [atxt_mid]; rfl
  have x1824 : (txt (hd.bs ++ (be2 p.op ++ (p.sha.bs ++ (be4 p.spa ++ (p.tha.bs ++ (be4 p.tpa ++ r))))))).extract 18 24 = txt p.tha.bs := by rw [atxt_mid]; rfl
  have x2428 : (txt (hd.bs ++ (be2 p.op ++ (p.sha.bs ++ (be4 p.spa ++ (p.tha.bs ++ (be4 p.tpa ++ r))))))).extract 24 28 = txt (be4 p.tpa) := by rw [atxt_mid]; rfl
  have HN4 : Hid (∀ W, _) := fun W => aNum4 p.spa hp.spa W
  have HN5 : Hid (∀ W, _) := fun W => aNum4 p.tpa hp.tpa W
  generalize txt (be4 p.spa) = t1418 at *
  generalize txt (be4 p.tpa) = t2428 at *
  have HOO : Hid (O = 1 ∨ O = 2) := by show _ ∨ _; omega
  generalize txt hd.bs = t06 at *
  clear h1 hN
  generalize txt (hd.bs ++ (be2 p.op ++ (p.sha.bs ++ (be4 p.spa ++ (p.tha.bs ++ (be4 p.tpa ++ r)))))) = tl at *
  unfold RaOk
  generalize txt p.sha.bs = ta at *
  generalize txt p.tha.bs = tb at *
  have HOP := Lib.hid hO
  clear hp hO h2
  go_enter Tryd.func6, Tryd.ntmps6
  go_upto_region 1 with fail
  generalize w.alloc (.cells #[.int .u32 0, .string ⟨#[]⟩, .string ⟨#[]⟩, .int .u32 0, .int .u32 0] 36) = W0 at *
  generalize hnn : w.heap.size = n at HZ ⊢
  have HNN := Lib.hid hnn
  clear hnn
  go_upto_region 6 with (go_at_call 21; refine (HN68.out _).mono ?_; rintro e wq ⟨rfl, rfl⟩)
  clear x06 x68 h6 h7 n3
  go_cut [21] (fun s21 wx => s21 = .bool false ∧ wx = W0)
  case first =>
    rcases HOO.out with h | h
    · subst h
      go_wp2_with fail
      go_meet
      exact ⟨rfl, rfl⟩
    · subst h
      go_wp2_with fail
      go_meet
      exact ⟨rfl, rfl⟩
  obtain ⟨rfl, hwc⟩ := hcut
  subst hwc
  rw [← HOP.out]
  go_upto_region 8 with fail
  have HBD : Hid (Below w.heap.size w wc.drew) := ⟨HB.out.os, HB.out.tape, HB.out.output, HB.out.size, HB.out.block⟩
  have HZD : Hid (wc.drew.heap[n]? = some (.cells #[.int .u32 0, .string ⟨#[]⟩, .string ⟨#[]⟩, .int .u32 0, .int .u32 0] 36)) := HZ.out
  clear HZ
  have HZ := HZD
  clear HZD
  refine wp_region_any (by kernel_rfl) ?_
  change wpAny _ _ _ _ _ _ _ (World.drew _)
  refine wpAny_take (i := 0) (oi := ⟨some 23, _, _, _, _, _⟩) (v := (.int .u32 (p.op : Int))) rfl (by kernel_rfl) (free_fast (L := raLex) (by kernel_rfl) (by kernel_rfl)) (by kernel_rfl) (fun _ _ _ h => h) (Or.inl ⟨by rfl, ?_⟩) ?_
  · intro W
    go_simp
  try simp only [Act.put, List.setIfInBounds_toArray, List.set_cons_zero, List.set_cons_succ]
  refine wpAny_take (i := 1) (oi := ⟨some 24, _, _, _, _, _⟩) (v := (.string tl)) rfl (by kernel_rfl) (free_fast (L := raLex) (by kernel_rfl) (by kernel_rfl)) (by kernel_rfl) (fun _ _ _ h => h) (Or.inl ⟨by rfl, ?_⟩) ?_
  · intro W
    go_simp
  try simp only [Act.put, List.setIfInBounds_toArray, List.set_cons_zero, List.set_cons_succ]
  refine wpAny_take (i := 2) (oi := ⟨some 25, _, _, _, _, _⟩) (v := (.string ta)) rfl (by kernel_rfl) (free_fast (L := raLex) (by kernel_rfl) (by kernel_rfl)) (by kernel_rfl) (fun _ _ _ h => h) (Or.inl ⟨by rfl, ?_⟩) ?_
  · intro W
    go_simp
  try simp only [Act.put, List.setIfInBounds_toArray, List.set_cons_zero, List.set_cons_succ]
  refine wpAny_take (i := 3) (oi := ⟨some 26, _, _, _, _, _⟩) (v := (.string tl)) rfl (by kernel_rfl) (free_fast (L := raLex) (by kernel_rfl) (by kernel_rfl)) (by kernel_rfl) (fun _ _ _ h => h) (Or.inl ⟨by rfl, ?_⟩) ?_
  · intro W
    go_simp
  try simp only [Act.put, List.setIfInBounds_toArray, List.set_cons_zero, List.set_cons_succ]
  refine wpAny_take (i := 4) (oi := ⟨some 27, _, _, _, _, _⟩) (v := (.string t1418)) rfl (by kernel_rfl) (free_fast (L := raLex) (by kernel_rfl) (by kernel_rfl)) (by kernel_rfl) (fun _ _ _ h => h) (Or.inl ⟨by rfl, ?_⟩) ?_
  · intro W
    go_simp
  try simp only [Act.put, List.setIfInBounds_toArray, List.set_cons_zero, List.set_cons_succ]
  refine wpAny_take (i := 6) (oi := ⟨some 29, _, _, _, _, _⟩) (v := (.string tl)) rfl (by kernel_rfl) (free_fast (L := raLex) (by kernel_rfl) (by kernel_rfl)) (by kernel_rfl) (fun _ _ _ h => h) (Or.inl ⟨by rfl, ?_⟩) ?_
  · intro W
    go_simp
  try simp only [Act.put, List.setIfInBounds_toArray, List.set_cons_zero, List.set_cons_succ]
  refine wpAny_take (i := 7) (oi := ⟨some 30, _, _, _, _, _⟩) (v := (.string tb)) rfl (by kernel_rfl) (free_fast (L := raLex) (by kernel_rfl) (by kernel_rfl)) (by kernel_rfl) (fun _ _ _ h => h) (Or.inl ⟨by rfl, ?_⟩) ?_
  · intro W
    go_simp
  try simp only [Act.put, List.setIfInBounds_toArray, List.set_cons_zero, List.set_cons_succ]
  refine wpAny_take (i := 8) (oi := ⟨some 31, _, _, _, _, _⟩) (v := (.string tl)) rfl (by kernel_rfl) (free_fast (L := raLex) (by kernel_rfl) (by kernel_rfl)) (by kernel_rfl) (fun _ _ _ h => h) (Or.inl ⟨by rfl, ?_⟩) ?_
  · intro W
    go_simp
  try simp only [Act.put, List.setIfInBounds_toArray, List.set_cons_zero, List.set_cons_succ]
  refine wpAny_take (i := 9) (oi := ⟨some 32, _, _, _, _, _⟩) (v := (.string t2428)) rfl (by kernel_rfl) (free_fast (L := raLex) (by kernel_rfl) (by kernel_rfl)) (by kernel_rfl) (fun _ _ _ h => h) (Or.inl ⟨by rfl, ?_⟩) ?_
  · intro W
    go_simp
  try simp only [Act.put, List.setIfInBounds_toArray, List.set_cons_zero, List.set_cons_succ]
  refine wpAny_ready (rs := [5]) (by kernel_rfl) (by simp) ?_
  refine AllReady.cons (o := ⟨some 28, _, _, _, _, _⟩) rfl (fun K hK => ?_) AllReady.nil
  have hk := Lib.hid hK
  clear hK
  go_simp
  go_at_call 21
  refine (HN4.out _).mono ?_
  rintro e wq ⟨rfl, rfl⟩
  dsimp only
  refine hk.out _ _ ?_
  clear hk K
  try simp only [Act.put, List.setIfInBounds_toArray, List.set_cons_zero, List.set_cons_succ]
  refine wpAny_ready (rs := [10]) (by kernel_rfl) (by simp) ?_
  refine AllReady.cons (o := ⟨some 33, _, _, _, _, _⟩) rfl (fun K hK => ?_) AllReady.nil
  have hk := Lib.hid hK
  clear hK
  go_simp
  go_at_call 21
  refine (HN5.out _).mono ?_
  rintro e wq ⟨rfl, rfl⟩
  dsimp only
  refine hk.out _ _ ?_
  clear hk K
  try simp only [Act.put, List.setIfInBounds_toArray, List.set_cons_zero, List.set_cons_succ]
  refine wpAny_take (i := 11) (oi := ⟨some 34, _, _, _, _, _⟩) (v := (.agg #[.int .u32 p.op, .string ta, .string tb, .int .u32 p.spa, .int .u32 p.tpa])) rfl (by kernel_rfl) (free_fast (L := raLex) (by kernel_rfl) (by kernel_rfl)) (by kernel_rfl) (fun _ _ _ h => h) (Or.inl ⟨by rfl, ?_⟩) ?_
  · intro W
    go_simp
  try simp only [Act.put, List.setIfInBounds_toArray, List.set_cons_zero, List.set_cons_succ]
  refine wpAny_ready (rs := [12]) (by kernel_rfl) (by simp) ?_
  refine AllReady.cons (o := ⟨none, _, _, _, _, _⟩) rfl (fun K hK => ?_) AllReady.nil
  refine step_store_row rfl 36 (.tmp 2) (.tmp 34) rfl n #[.int .u32 p.op, .string ta, .string tb, .int .u32 p.spa, .int .u32 p.tpa] rfl rfl 36 _ HZ.out refPktSize rfl (by simp [Value.oneCell']) rfl ?_
  refine hK _ _ ?_
  clear hK K
  try simp only [Act.put]
  refine wpAny_take (i := 13) (oi := ⟨some 3, _, _, _, _, _⟩) (v := (.string ⟨#[]⟩)) rfl (by kernel_rfl) (free_fast (L := raLex) (by kernel_rfl) (by kernel_rfl)) (by kernel_rfl) (fun _ _ _ h => h) (Or.inl ⟨by rfl, ?_⟩) ?_
  · intro W
    go_simp
  try simp only [Act.put, List.setIfInBounds_toArray, List.set_cons_zero, List.set_cons_succ]
  refine wpAny_done (by kernel_rfl) ?_ _
  go_wp2_with fail
  (try simp only [Exit.inBlock, Exit.then])
  refine bodyPost_ret (results_cell_tmp_row rfl _ _ n _ #[.int .u32 p.op, .string ta, .string tb, .int .u32 p.spa, .int .u32 p.tpa] (0, 0) _ rfl (setRow_heap _ _ _ _ _ _ HZ.out) Tryd.underlying36 rfl refPktSize) rfl ?_
  exact ⟨rfl, below_arow HBD.out (by rw [HNN.out]; exact Nat.le_refl _) _⟩
end Go.Proofs.YthinmonahnbkdaaDoor
