/-
  What is proved: the document's Bytes of layer 5 (underpassref05) by contract.
  Conditions: the packet's numbers fit their types; it has few bytes.
  What is proved: the document's Parse of layer 5 (underpassref05) by contract.
  Conditions: at most three thousand bytes.
  What is proved: the document's Parse of layer 5 (underpassref05) behind the sum, by contract.
  Conditions: at most three thousand bytes.
-/
import Derived.Test.YtbielhdmikcngaaDoorMVa
import Derived.Test.YtbielhdmikcngaaDoorVFld
import Derived.Test.YtbielhdmikcngaaDoorVKind
import Derived.Deep.RegionLaw
namespace Go.Proofs.YtbielhdmikcngaaDoor
open Go.RowKit

theorem refHead_any (p : Ip) (hp : p.Own) (hn : p.bad = 0) (z : Int) (c : Nat) (hz : z = (c : Int)) (hc : c < 65536) (w : World) :
    Calls Tryd.prog 25 #[.agg #[.int .u32 p.tos, .int .u32 p.id, .bool p.df, .bool p.mf, .int .i64 p.off, .int .u32 p.ttl, .int .u32 p.proto, .int .u32 p.src, .int .u32 p.dst, .string (txt p.b)], .int .u32 z] w fun e w' => e = .returned (.string (txt (p.hd c).bs)) ∧ Below w.heap.size w w' := by
  subst hz
  by_cases hd : p.df = true
  · by_cases hm : p.mf = true
    · exact refHead_tt p hp hn hd hm c hc w
    · exact refHead_tf p hp hn hd (by simpa using hm) c hc w
  · by_cases hm : p.mf = true
    · exact refHead_ft p hp hn (by simpa using hd) hm c hc w
    · exact refHead_ff p hp hn (by simpa using hd) (by simpa using hm) c hc w
theorem ipTxt_some {n : Nat} (h : n ≠ 0) : ((ipTxt n).toList == (⟨#[]⟩ : ByteArray).toList) = false := by
  unfold ipTxt
  rw [if_neg h]
  split
  · show ((txt [105, 112, 118, 52, 58, 32, 101, 114, 114, 111, 114, 32, 49]).toList == _) = false
    rw [vtxt_list, empty_list]
    rfl
  · show ((txt [105, 112, 118, 52, 58, 32, 101, 114, 114, 111, 114, 32, 55]).toList == _) = false
    rw [vtxt_list, empty_list]
    rfl
set_option maxRecDepth 100000 in
set_option maxHeartbeats 2000000 in
theorem refBytes_bad (p : Ip) (hp : p.Own) (hn : p.bad ≠ 0) (w : World) :
    Calls Tryd.prog 12 #[.agg #[.int .u32 p.tos, .int .u32 p.id, .bool p.df, .bool p.mf, .int .i64 p.off, .int .u32 p.ttl, .int .u32 p.proto, .int .u32 p.src, .int .u32 p.dst, .string (txt p.b)]] w fun e w' => e = .returned (.tuple #[.string ⟨#[]⟩, .string (ipTxt p.bad)]) ∧ Below w.heap.size w w' := by
  have hx : RfAt (w.alloc (.cells #[.int .u32 p.tos, .int .u32 p.id, .bool p.df, .bool p.mf, .int .i64 p.off, .int .u32 p.ttl, .int .u32 p.proto, .int .u32 p.src, .int .u32 p.dst, .string (txt p.b)] 34)) w.heap.size p := heap_alloc_new w _
  have hb0 := below_al (Below.refl w.heap.size w) (.cells #[.int .u32 p.tos, .int .u32 p.id, .bool p.df, .bool p.mf, .int .i64 p.off, .int .u32 p.ttl, .int .u32 p.proto, .int .u32 p.src, .int .u32 p.dst, .string (txt p.b)] 34)
  have HB := Lib.hid (And.intro hb0 hb0.size)
  have XR := Lib.hid (refRight_any p (by have := hp.few; omega) (w.alloc (.cells #[.int .u32 p.tos, .int .u32 p.id, .bool p.df, .bool p.mf, .int .i64 p.off, .int .u32 p.ttl, .int .u32 p.proto, .int .u32 p.src, .int .u32 p.dst, .string (txt p.b)] 34)))
  have e0 := ipTxt_some hn
  have e1 : ((ipTxt p.bad).toList == []) = false := by rw [← empty_list]; exact e0
  have HX := Lib.hid hx
  clear hb0 hx hp hn
  generalize ipTxt p.bad = tt at *
  go_enter Tryd.func12, Tryd.ntmps12
  go_upto_region 1 with fail
  generalize w.alloc (.cells #[.int .u32 p.tos, .int .u32 p.id, .bool p.df, .bool p.mf, .int .i64 p.off, .int .u32 p.ttl, .int .u32 p.proto, .int .u32 p.src, .int .u32 p.dst, .string (txt p.b)] 34) = W0 at *
  obtain ⟨c0, c1, c2, c3, c4, c5, c6, c7, c8, c9⟩ := HX.out.cells
  go_wp2_with fail
  refine XR.out.mono ?_
  rintro e w1 ⟨rfl, hl⟩
  have HB1 := Lib.hid (ibelow_on' HB.out hl)
  clear hl XR HX HB c0 c1 c2 c3 c4 c5 c6 c7 c8 c9
  go_wp2_with fail
  go_ret2
  exact ⟨rfl, HB1.out⟩
set_option maxRecDepth 100000 in
set_option maxHeartbeats 4000000 in
theorem refBytes_ok (p : Ip) (hp : p.Own) (hn : p.bad = 0) (w : World) :
    Calls Tryd.prog 12 #[.agg #[.int .u32 p.tos, .int .u32 p.id, .bool p.df, .bool p.mf, .int .i64 p.off, .int .u32 p.ttl, .int .u32 p.proto, .int .u32 p.src, .int .u32 p.dst, .string (txt p.b)]] w fun e w' => e = .returned (.tuple #[.string (txt p.bs), .string ⟨#[]⟩]) ∧ Below w.heap.size w w' := by
  have hx : RfAt (w.alloc (.cells #[.int .u32 p.tos, .int .u32 p.id, .bool p.df, .bool p.mf, .int .i64 p.off, .int .u32 p.ttl, .int .u32 p.proto, .int .u32 p.src, .int .u32 p.dst, .string (txt p.b)] 34)) w.heap.size p := heap_alloc_new w _
  have hb0 := below_al (Below.refl w.heap.size w) (.cells #[.int .u32 p.tos, .int .u32 p.id, .bool p.df, .bool p.mf, .int .i64 p.off, .int .u32 p.ttl, .int .u32 p.proto, .int .u32 p.src, .int .u32 p.dst, .string (txt p.b)] 34)
  have HB := Lib.hid (And.intro hb0 hb0.size)
  have XR := refRight_any p (by have := hp.few; omega) (w.alloc (.cells #[.int .u32 p.tos, .int .u32 p.id, .bool p.df, .bool p.mf, .int .i64 p.off, .int .u32 p.ttl, .int .u32 p.proto, .int .u32 p.src, .int .u32 p.dst, .string (txt p.b)] 34))
  rw [hn] at XR
  have HR := Lib.hid XR
  have HH0 : Hid (∀ W : World, _) := fun W => refHead_any p hp hn 0 0 rfl (by decide) W
  have HH1 : Hid (∀ W : World, _) := fun W => refHead_any p hp hn (p.sum : Int) p.sum rfl (sum_lt p) W
  have HSM : Hid (∀ W : World, Calls Tryd.prog 19 #[.string (txt (p.hd 0).bs)] W fun e w' => e = .returned (.int .u16 ((p.sum : Nat) : Int)) ∧ ∃ m, w' = W.drewN m) := fun W => refSum_any (p.hd 0).bs (by rw [Hd.bs_len]; decide) W
  have s1 : IntKind.u32.wrap (p.sum : Int) = (p.sum : Int) := u32_fitsN p.sum (by have := sum_lt p; omega)
  have a1 : txt (p.hd p.sum).bs ++ txt p.b = txt p.bs := txt_append _ _
  have b1 : (txt (p.hd p.sum).bs).size = 20 := txt_size _
  have b2 : (txt p.b).size ≤ 3000 := by rw [txt_size]; exact hp.few
  have b3 : ¬ 9223372036854775807 < 20 + (txt p.b).size := by omega
  have HX := Lib.hid hx
  clear hb0 hx hp hn XR
  generalize txt p.bs = S at *
  generalize txt (p.hd p.sum).bs = T1 at *
  generalize txt (p.hd 0).bs = T0 at *
  generalize hp2 : txt p.b = tb at *
  have HTB := Lib.hid hp2
  clear hp2
  go_enter Tryd.func12, Tryd.ntmps12
  go_upto_region 1 with fail
  generalize w.alloc (.cells #[.int .u32 p.tos, .int .u32 p.id, .bool p.df, .bool p.mf, .int .i64 p.off, .int .u32 p.ttl, .int .u32 p.proto, .int .u32 p.src, .int .u32 p.dst, .string (tb)] 34) = W0 at *
  generalize hnn : w.heap.size = n at *
  have HNN := Lib.hid hnn
  clear hnn
  have KS0 : Hid (∀ W, Below W0.heap.size W0 W → W.cell? ⟨n, 0, none⟩ = some (.int .u32 p.tos) ∧ W.cell? ⟨n, 1, none⟩ = some (.int .u32 p.id) ∧ W.cell? ⟨n, 2, none⟩ = some (.bool p.df) ∧ W.cell? ⟨n, 3, none⟩ = some (.bool p.mf) ∧ W.cell? ⟨n, 4, none⟩ = some (.int .i64 p.off) ∧ W.cell? ⟨n, 5, none⟩ = some (.int .u32 p.ttl) ∧ W.cell? ⟨n, 6, none⟩ = some (.int .u32 p.proto) ∧ W.cell? ⟨n, 7, none⟩ = some (.int .u32 p.src) ∧ W.cell? ⟨n, 8, none⟩ = some (.int .u32 p.dst) ∧ W.cell? ⟨n, 9, none⟩ = some (.string tb)) := fun W h => by
    have k := (HX.out.below h).cells
    rw [HTB.out] at k
    exact k
  obtain ⟨c0, c1, c2, c3, c4, c5, c6, c7, c8, c9⟩ := KS0.out W0 ⟨rfl, rfl, rfl, Nat.le_refl _, fun _ _ => rfl⟩
  go_wp2_with fail
  refine HR.out.mono ?_
  rintro e w1 ⟨rfl, hl⟩
  have HL1 := Lib.hid hl
  clear hl HR HX c0 c1 c2 c3 c4 c5 c6 c7 c8 c9
  unfold ipTxt
  simp only [if_true]
  go_upto_region 4 with fail
  go_region_held_law (fun W => W.cell? ⟨n, 0, none⟩ = some (.int .u32 p.tos) ∧ W.cell? ⟨n, 1, none⟩ = some (.int .u32 p.id) ∧ W.cell? ⟨n, 2, none⟩ = some (.bool p.df) ∧ W.cell? ⟨n, 3, none⟩ = some (.bool p.mf) ∧ W.cell? ⟨n, 4, none⟩ = some (.int .i64 p.off) ∧ W.cell? ⟨n, 5, none⟩ = some (.int .u32 p.ttl) ∧ W.cell? ⟨n, 6, none⟩ = some (.int .u32 p.proto) ∧ W.cell? ⟨n, 7, none⟩ = some (.int .u32 p.src) ∧ W.cell? ⟨n, 8, none⟩ = some (.int .u32 p.dst) ∧ W.cell? ⟨n, 9, none⟩ = some (.string tb))
    (first | assumption | exact KS0.out _ HL4.out | exact KS0.out _ HL3.out | exact KS0.out _ HL2.out | exact KS0.out _ (below_to HL1.out (below_drew w1) HL1.out.size))
    (first
      | (go_at_call 25; (with_reducible refine (HH0.out _).mono ?_); rintro e w2 ⟨rfl, hl⟩; (have HL2 := Lib.hid (below_to HL1.out ((below_drew w1).trans hl) HL1.out.size)); clear hl)
      | (go_at_call 19; (with_reducible refine (HSM.out _).mono ?_); rintro e w3 ⟨rfl, m, hm⟩; (have HL3 : Hid (Below W0.heap.size W0 w3) := by rw [hm]; exact dr_below HL2.out m); clear hm)
      | (go_at_call 25; (with_reducible refine (HH1.out _).mono ?_); rintro e w4 ⟨rfl, hl⟩; (have HL4 := Lib.hid (below_to HL3.out hl HL3.out.size)); clear hl))
  all_goals
    go_wp2_with fail
    go_ret2
    exact ⟨rfl, by rw [HNN.out]; exact ibelow_on' HB.out HL4.out⟩
end Go.Proofs.YtbielhdmikcngaaDoor
namespace Go.Proofs.YtbielhdmikcngaaDoor
open Go.RowKit

theorem vtxt_mid (bs : List UInt8) (a b : Nat) : (txt bs).extract a b = txt ((bs.drop a).take (b - a)) := by
  apply ByteArray.ext
  rw [ByteArray.data_extract]
  simp [txt, List.extract_eq_take_drop]
theorem ofNat_one {n : Nat} (h : n < 256) : (UInt8.ofNat n).toNat = n := by rw [ofNat_lt]; exact Nat.mod_eq_of_lt h
theorem vNum2 (n : Nat) (h : n < 65536) (W : World) : Calls Tryd.prog 18 #[.string (txt (be2 n))] W fun e w' => e = .returned (.int .u32 (n : Int)) ∧ W = w' := by
  have k := refNum2 (UInt8.ofNat (n / 256)) (UInt8.ofNat n) W
  rw [be2_sum n h] at k
  exact k
theorem vNum4 (n : Nat) (h : n < 4294967296) (W : World) : Calls Tryd.prog 18 #[.string (txt (be4 n))] W fun e w' => e = .returned (.int .u32 (n : Int)) ∧ W = w' := by
  have k := refNum4 (UInt8.ofNat (n / 16777216)) (UInt8.ofNat (n / 65536)) (UInt8.ofNat (n / 256)) (UInt8.ofNat n) W
  have e : (((UInt8.ofNat (n / 16777216)).toNat * 256 + (UInt8.ofNat (n / 65536)).toNat) * 256 + (UInt8.ofNat (n / 256)).toNat) * 256 + (UInt8.ofNat n).toNat = n := by
    rw [ofNat_lt, ofNat_lt, ofNat_lt, ofNat_lt]
    omega
  rw [e] at k
  exact k
def RfErr (t : ByteArray) (w : World) (e : Ending) (w' : World) : Prop := e = .returned (.tuple #[.agg #[.int .u32 0, .int .u32 0, .bool false, .bool false, .int .i64 0, .int .u32 0, .int .u32 0, .int .u32 0, .int .u32 0, .string ⟨#[]⟩], .string t]) ∧ Below w.heap.size w w'
theorem rfZ_one : (#[.int .u32 0, .int .u32 0, .bool false, .bool false, .int .i64 0, .int .u32 0, .int .u32 0, .int .u32 0, .int .u32 0, .string ⟨#[]⟩] : Array Value).all (·.oneCell') = true := by simp [Value.oneCell']
set_option maxRecDepth 100000 in
set_option maxHeartbeats 4000000 in
theorem refParse_short (l : List UInt8) (hl : l.length < 20) (w : World) :
    Calls Tryd.prog 7 #[.string (txt l)] w (RfErr ⟨#[105, 112, 118, 52, 58, 32, 111, 99, 116, 101, 116, 115, 58, 32, 101, 114, 114, 111, 114, 32, 50]⟩ w) := by
  have HZ := Lib.hid (heap_alloc_new w (.cells #[.int .u32 0, .int .u32 0, .bool false, .bool false, .int .i64 0, .int .u32 0, .int .u32 0, .int .u32 0, .int .u32 0, .string ⟨#[]⟩] 34))
  have HB := Lib.hid (below_al (Below.refl w.heap.size w) (.cells #[.int .u32 0, .int .u32 0, .bool false, .bool false, .int .i64 0, .int .u32 0, .int .u32 0, .int .u32 0, .int .u32 0, .string ⟨#[]⟩] 34))
  have hz : (txt l).size < 20 := by rw [txt_size]; exact hl
  generalize txt l = tl at *
  clear hl
  unfold RfErr
  go_enter Tryd.func7, Tryd.ntmps7
  go_upto_region 1 with fail
  generalize w.alloc (.cells #[.int .u32 0, .int .u32 0, .bool false, .bool false, .int .i64 0, .int .u32 0, .int .u32 0, .int .u32 0, .int .u32 0, .string ⟨#[]⟩] 34) = W0 at *
  generalize hnn : w.heap.size = n at HZ ⊢
  have HNN := Lib.hid hnn
  clear hnn
  go_wp2_with (refine wpList_store_row rfl 34 (.tmp 2) (.tmp 11) rfl n #[.int .u32 0, .int .u32 0, .bool false, .bool false, .int .i64 0, .int .u32 0, .int .u32 0, .int .u32 0, .int .u32 0, .string ⟨#[]⟩] rfl rfl 34 _ HZ.out refIpSize rfl rfZ_one ?_)
  (try simp only [Exit.inBlock, Exit.then])
  refine bodyPost_ret (results_cell_tmp_row rfl _ _ n _ #[.int .u32 0, .int .u32 0, .bool false, .bool false, .int .i64 0, .int .u32 0, .int .u32 0, .int .u32 0, .int .u32 0, .string ⟨#[]⟩] (0, 0) _ rfl (setRow_heap _ _ _ _ _ _ HZ.out) Tryd.underlying34 rfl refIpSize) rfl ?_
  exact ⟨rfl, below_row HB.out (by rw [HNN.out]; exact Nat.le_refl _) _⟩
set_option maxRecDepth 100000 in
set_option maxHeartbeats 4000000 in
theorem refParse_ver (h : Hd) (hh : h.In) (r : List UInt8) (hr : r.length ≤ 2980) (h1 : h.first / 16 ≠ 4) (w : World) :
    Calls Tryd.prog 7 #[.string (txt (h.bs ++ r))] w (RfErr ⟨#[105, 112, 118, 52, 58, 32, 101, 114, 114, 111, 114, 32, 49, 50]⟩ w) := by
  have HZ := Lib.hid (heap_alloc_new w (.cells #[.int .u32 0, .int .u32 0, .bool false, .bool false, .int .i64 0, .int .u32 0, .int .u32 0, .int .u32 0, .int .u32 0, .string ⟨#[]⟩] 34))
  have HB := Lib.hid (below_al (Below.refl w.heap.size w) (.cells #[.int .u32 0, .int .u32 0, .bool false, .bool false, .int .i64 0, .int .u32 0, .int .u32 0, .int .u32 0, .int .u32 0, .string ⟨#[]⟩] 34))
  obtain ⟨N, hN⟩ : ∃ N, 20 + r.length = N := ⟨_, rfl⟩
  have n1 : 20 ≤ N := by omega
  have n2 : N ≤ 3000 := by omega
  have n3 : decide (N < 20) = false := decide_eq_false (by omega)
  have n4 : (20 : Int) ≤ (N : Int) := by omega
  have n5 : (N : Int) ≤ 3000 := by omega
  have hz : (txt (h.bs ++ r)).size = N := by rw [txt_size, List.length_append, Hd.bs_len, hN]
  have e0 : ∀ W, (Instr.index 9 (.string (txt (h.bs ++ r))) (.int .i64 0)).run Tryd.prog W = .ok (.int .u8 (h.first : Int)) W := fun W => by rw [txt_index (h.bs ++ r) 0 (UInt8.ofNat h.first) rfl 0 rfl W, ofNat_one hh.first]
  obtain ⟨a, ha⟩ : ∃ a : Int, (h.first : Int) / 16 = a := ⟨_, rfl⟩
  obtain ⟨b, hb⟩ : ∃ b : Int, (h.first : Int) % 16 = b := ⟨_, rfl⟩
  have ha1 : (h.first : Int).tdiv 16 = a := by rw [Int.tdiv_eq_ediv_of_nonneg (by omega)]; exact ha
  have hb1 : (h.first : Int).tmod 16 = b := by rw [Int.tmod_eq_emod_of_nonneg (by omega)]; exact hb
  have hf := hh.first
  have a0 : 0 ≤ a := by omega
  have a1 : a < 16 := by omega
  have b0 : 0 ≤ b := by omega
  have b1 : b < 16 := by omega
  have ae1 : (a == 4) = false := by simp; omega
  have ae2 : decide (a = 4) = false := by simp; omega
  have ae3 : (a != 4) = true := by simp; omega
  clear hf hh
  generalize h.first = F at *
  generalize txt (h.bs ++ r) = tl at *
  unfold RfErr
  go_enter Tryd.func7, Tryd.ntmps7
  go_upto_region 1 with fail
  generalize w.alloc (.cells #[.int .u32 0, .int .u32 0, .bool false, .bool false, .int .i64 0, .int .u32 0, .int .u32 0, .int .u32 0, .int .u32 0, .string ⟨#[]⟩] 34) = W0 at *
  generalize hnn : w.heap.size = n at HZ ⊢
  have HNN := Lib.hid hnn
  clear hnn
  go_wp2_with (refine wpList_store_row rfl 34 (.tmp 2) (.tmp 16) rfl n #[.int .u32 0, .int .u32 0, .bool false, .bool false, .int .i64 0, .int .u32 0, .int .u32 0, .int .u32 0, .int .u32 0, .string ⟨#[]⟩] rfl rfl 34 _ HZ.out refIpSize rfl rfZ_one ?_)
  (try simp only [Exit.inBlock, Exit.then])
  refine bodyPost_ret (results_cell_tmp_row rfl _ _ n _ #[.int .u32 0, .int .u32 0, .bool false, .bool false, .int .i64 0, .int .u32 0, .int .u32 0, .int .u32 0, .int .u32 0, .string ⟨#[]⟩] (0, 0) _ rfl (setRow_heap _ _ _ _ _ _ HZ.out) Tryd.underlying34 rfl refIpSize) rfl ?_
  exact ⟨rfl, below_row HB.out (by rw [HNN.out]; exact Nat.le_refl _) _⟩
set_option maxRecDepth 100000 in
set_option maxHeartbeats 4000000 in
theorem refParse_low (h : Hd) (hh : h.In) (r : List UInt8) (hr : r.length ≤ 2980) (h1 : h.first / 16 = 4) (h2 : h.first % 16 < 5) (w : World) :
    Calls Tryd.prog 7 #[.string (txt (h.bs ++ r))] w (RfErr ⟨#[105, 112, 118, 52, 58, 32, 101, 114, 114, 111, 114, 32, 51]⟩ w) := by
  have HZ := Lib.hid (heap_alloc_new w (.cells #[.int .u32 0, .int .u32 0, .bool false, .bool false, .int .i64 0, .int .u32 0, .int .u32 0, .int .u32 0, .int .u32 0, .string ⟨#[]⟩] 34))
  have HB := Lib.hid (below_al (Below.refl w.heap.size w) (.cells #[.int .u32 0, .int .u32 0, .bool false, .bool false, .int .i64 0, .int .u32 0, .int .u32 0, .int .u32 0, .int .u32 0, .string ⟨#[]⟩] 34))
  obtain ⟨N, hN⟩ : ∃ N, 20 + r.length = N := ⟨_, rfl⟩
  have n1 : 20 ≤ N := by omega
  have n2 : N ≤ 3000 := by omega
  have n3 : decide (N < 20) = false := decide_eq_false (by omega)
  have n4 : (20 : Int) ≤ (N : Int) := by omega
  have n5 : (N : Int) ≤ 3000 := by omega
  have hz : (txt (h.bs ++ r)).size = N := by rw [txt_size, List.length_append, Hd.bs_len, hN]
  have e0 : ∀ W, (Instr.index 9 (.string (txt (h.bs ++ r))) (.int .i64 0)).run Tryd.prog W = .ok (.int .u8 (h.first : Int)) W := fun W => by rw [txt_index (h.bs ++ r) 0 (UInt8.ofNat h.first) rfl 0 rfl W, ofNat_one hh.first]
  obtain ⟨a, ha⟩ : ∃ a : Int, (h.first : Int) / 16 = a := ⟨_, rfl⟩
  obtain ⟨b, hb⟩ : ∃ b : Int, (h.first : Int) % 16 = b := ⟨_, rfl⟩
  have ha1 : (h.first : Int).tdiv 16 = a := by rw [Int.tdiv_eq_ediv_of_nonneg (by omega)]; exact ha
  have hb1 : (h.first : Int).tmod 16 = b := by rw [Int.tmod_eq_emod_of_nonneg (by omega)]; exact hb
  have hf := hh.first
  have a0 : 0 ≤ a := by omega
  have a1 : a < 16 := by omega
  have b0 : 0 ≤ b := by omega
  have b1 : b < 16 := by omega
  have ae1 : (a == 4) = true := by simp; omega
  have ae2 : decide (a = 4) = true := by simp; omega
  have ae3 : (a != 4) = false := by simp; omega
  have b2 : b < 5 := by omega
  clear hf hh
  generalize h.first = F at *
  generalize txt (h.bs ++ r) = tl at *
  unfold RfErr
  go_enter Tryd.func7, Tryd.ntmps7
  go_upto_region 1 with fail
  generalize w.alloc (.cells #[.int .u32 0, .int .u32 0, .bool false, .bool false, .int .i64 0, .int .u32 0, .int .u32 0, .int .u32 0, .int .u32 0, .string ⟨#[]⟩] 34) = W0 at *
  generalize hnn : w.heap.size = n at HZ ⊢
  have HNN := Lib.hid hnn
  clear hnn
  go_wp2_with (refine wpList_store_row rfl 34 (.tmp 2) (.tmp 21) rfl n #[.int .u32 0, .int .u32 0, .bool false, .bool false, .int .i64 0, .int .u32 0, .int .u32 0, .int .u32 0, .int .u32 0, .string ⟨#[]⟩] rfl rfl 34 _ HZ.out refIpSize rfl rfZ_one ?_)
  (try simp only [Exit.inBlock, Exit.then])
  refine bodyPost_ret (results_cell_tmp_row rfl _ _ n _ #[.int .u32 0, .int .u32 0, .bool false, .bool false, .int .i64 0, .int .u32 0, .int .u32 0, .int .u32 0, .int .u32 0, .string ⟨#[]⟩] (0, 0) _ rfl (setRow_heap _ _ _ _ _ _ HZ.out) Tryd.underlying34 rfl refIpSize) rfl ?_
  exact ⟨rfl, below_row HB.out (by rw [HNN.out]; exact Nat.le_refl _) _⟩
set_option maxRecDepth 100000 in
set_option maxHeartbeats 4000000 in
theorem refParse_high (h : Hd) (hh : h.In) (r : List UInt8) (hr : r.length ≤ 2980) (h1 : h.first / 16 = 4) (h2 : 5 < h.first % 16) (w : World) :
    Calls Tryd.prog 7 #[.string (txt (h.bs ++ r))] w (RfErr ⟨#[105, 112, 118, 52, 58, 32, 101, 114, 114, 111, 114, 32, 49, 49]⟩ w) := by
  have HZ := Lib.hid (heap_alloc_new w (.cells #[.int .u32 0, .int .u32 0, .bool false, .bool false, .int .i64 0, .int .u32 0, .int .u32 0, .int .u32 0, .int .u32 0, .string ⟨#[]⟩] 34))
  have HB := Lib.hid (below_al (Below.refl w.heap.size w) (.cells #[.int .u32 0, .int .u32 0, .bool false, .bool false, .int .i64 0, .int .u32 0, .int .u32 0, .int .u32 0, .int .u32 0, .string ⟨#[]⟩] 34))
  obtain ⟨N, hN⟩ : ∃ N, 20 + r.length = N := ⟨_, rfl⟩
  have n1 : 20 ≤ N := by omega
  have n2 : N ≤ 3000 := by omega
  have n3 : decide (N < 20) = false := decide_eq_false (by omega)
  have n4 : (20 : Int) ≤ (N : Int) := by omega
  have n5 : (N : Int) ≤ 3000 := by omega
  have hz : (txt (h.bs ++ r)).size = N := by rw [txt_size, List.length_append, Hd.bs_len, hN]
  have e0 : ∀ W, (Instr.index 9 (.string (txt (h.bs ++ r))) (.int .i64 0)).run Tryd.prog W = .ok (.int .u8 (h.first : Int)) W := fun W => by rw [txt_index (h.bs ++ r) 0 (UInt8.ofNat h.first) rfl 0 rfl W, ofNat_one hh.first]
  obtain ⟨a, ha⟩ : ∃ a : Int, (h.first : Int) / 16 = a := ⟨_, rfl⟩
  obtain ⟨b, hb⟩ : ∃ b : Int, (h.first : Int) % 16 = b := ⟨_, rfl⟩
  have ha1 : (h.first : Int).tdiv 16 = a := by rw [Int.tdiv_eq_ediv_of_nonneg (by omega)]; exact ha
  have hb1 : (h.first : Int).tmod 16 = b := by rw [Int.tmod_eq_emod_of_nonneg (by omega)]; exact hb
  have hf := hh.first
  have a0 : 0 ≤ a := by omega
  have a1 : a < 16 := by omega
  have b0 : 0 ≤ b := by omega
  have b1 : b < 16 := by omega
  have ae1 : (a == 4) = true := by simp; omega
  have ae2 : decide (a = 4) = true := by simp; omega
  have ae3 : (a != 4) = false := by simp; omega
  have b2 : 5 < b := by omega
  have b3 : decide (b < 5) = false := decide_eq_false (by omega)
  clear hf hh
  generalize h.first = F at *
  generalize txt (h.bs ++ r) = tl at *
  unfold RfErr
  go_enter Tryd.func7, Tryd.ntmps7
  go_upto_region 1 with fail
  generalize w.alloc (.cells #[.int .u32 0, .int .u32 0, .bool false, .bool false, .int .i64 0, .int .u32 0, .int .u32 0, .int .u32 0, .int .u32 0, .string ⟨#[]⟩] 34) = W0 at *
  generalize hnn : w.heap.size = n at HZ ⊢
  have HNN := Lib.hid hnn
  clear hnn
  go_wp2_with (refine wpList_store_row rfl 34 (.tmp 2) (.tmp 26) rfl n #[.int .u32 0, .int .u32 0, .bool false, .bool false, .int .i64 0, .int .u32 0, .int .u32 0, .int .u32 0, .int .u32 0, .string ⟨#[]⟩] rfl rfl 34 _ HZ.out refIpSize rfl rfZ_one ?_)
  (try simp only [Exit.inBlock, Exit.then])
  refine bodyPost_ret (results_cell_tmp_row rfl _ _ n _ #[.int .u32 0, .int .u32 0, .bool false, .bool false, .int .i64 0, .int .u32 0, .int .u32 0, .int .u32 0, .int .u32 0, .string ⟨#[]⟩] (0, 0) _ rfl (setRow_heap _ _ _ _ _ _ HZ.out) Tryd.underlying34 rfl refIpSize) rfl ?_
  exact ⟨rfl, below_row HB.out (by rw [HNN.out]; exact Nat.le_refl _) _⟩
set_option maxRecDepth 100000 in
set_option maxHeartbeats 4000000 in
theorem refParse_small (h : Hd) (hh : h.In) (r : List UInt8) (hr : r.length ≤ 2980) (h1 : h.first / 16 = 4) (h2 : h.first % 16 = 5) (h3 : h.size < 20) (w : World) :
    Calls Tryd.prog 7 #[.string (txt (h.bs ++ r))] w (RfErr ⟨#[105, 112, 118, 52, 58, 32, 101, 114, 114, 111, 114, 32, 51]⟩ w) := by
  have HZ := Lib.hid (heap_alloc_new w (.cells #[.int .u32 0, .int .u32 0, .bool false, .bool false, .int .i64 0, .int .u32 0, .int .u32 0, .int .u32 0, .int .u32 0, .string ⟨#[]⟩] 34))
  have HB := Lib.hid (below_al (Below.refl w.heap.size w) (.cells #[.int .u32 0, .int .u32 0, .bool false, .bool false, .int .i64 0, .int .u32 0, .int .u32 0, .int .u32 0, .int .u32 0, .string ⟨#[]⟩] 34))
  obtain ⟨N, hN⟩ : ∃ N, 20 + r.length = N := ⟨_, rfl⟩
  have n1 : 20 ≤ N := by omega
  have n2 : N ≤ 3000 := by omega
  have n3 : decide (N < 20) = false := decide_eq_false (by omega)
  have n4 : (20 : Int) ≤ (N : Int) := by omega
  have n5 : (N : Int) ≤ 3000 := by omega
  have hz : (txt (h.bs ++ r)).size = N := by rw [txt_size, List.length_append, Hd.bs_len, hN]
  have e0 : ∀ W, (Instr.index 9 (.string (txt (h.bs ++ r))) (.int .i64 0)).run Tryd.prog W = .ok (.int .u8 (h.first : Int)) W := fun W => by rw [txt_index (h.bs ++ r) 0 (UInt8.ofNat h.first) rfl 0 rfl W, ofNat_one hh.first]
  obtain ⟨a, ha⟩ : ∃ a : Int, (h.first : Int) / 16 = a := ⟨_, rfl⟩
  obtain ⟨b, hb⟩ : ∃ b : Int, (h.first : Int) % 16 = b := ⟨_, rfl⟩
  have ha1 : (h.first : Int).tdiv 16 = a := by rw [Int.tdiv_eq_ediv_of_nonneg (by omega)]; exact ha
  have hb1 : (h.first : Int).tmod 16 = b := by rw [Int.tmod_eq_emod_of_nonneg (by omega)]; exact hb
  have hf := hh.first
  have a0 : 0 ≤ a := by omega
  have a1 : a < 16 := by omega
  have b0 : 0 ≤ b := by omega
  have b1 : b < 16 := by omega
  have ae1 : (a == 4) = true := by simp; omega
  have ae2 : decide (a = 4) = true := by simp; omega
  have ae3 : (a != 4) = false := by simp; omega
  have x24 : (txt (h.bs ++ r)).extract 2 4 = txt (be2 h.size) := by rw [vtxt_mid]; rfl
  obtain ⟨S, hS⟩ : ∃ S : Int, (h.size : Int) = S := ⟨_, rfl⟩
  have HN2 : Hid (∀ W, Calls Tryd.prog 18 #[.string (txt (be2 h.size))] W fun e w' => e = .returned (.int .u32 S) ∧ W = w') := fun W => by rw [← hS]; exact vNum2 h.size hh.size W
  have s0 : 0 ≤ S := by omega
  have s2 : S < 65536 := by have := hh.size; omega
  generalize txt (be2 h.size) = t24 at *
  have s1 : IntKind.i64.wrap S = S := i64_wrapI _ (by omega) (by omega)
  have b3 : decide (b < 5) = false := decide_eq_false (by omega)
  have b4 : decide (5 < b) = false := decide_eq_false (by omega)
  have s3 : S < 20 := by omega
  have s3b : decide (S < 20) = true := decide_eq_true s3
  clear hS
  clear hf hh
  generalize h.first = F at *
  generalize txt (h.bs ++ r) = tl at *
  unfold RfErr
  go_enter Tryd.func7, Tryd.ntmps7
  go_upto_region 1 with fail
  generalize w.alloc (.cells #[.int .u32 0, .int .u32 0, .bool false, .bool false, .int .i64 0, .int .u32 0, .int .u32 0, .int .u32 0, .int .u32 0, .string ⟨#[]⟩] 34) = W0 at *
  generalize hnn : w.heap.size = n at HZ ⊢
  have HNN := Lib.hid hnn
  clear hnn
  go_wp2_with (first | (refine wpList_store_row rfl 34 (.tmp 2) (.tmp 33) rfl n #[.int .u32 0, .int .u32 0, .bool false, .bool false, .int .i64 0, .int .u32 0, .int .u32 0, .int .u32 0, .int .u32 0, .string ⟨#[]⟩] rfl rfl 34 _ HZ.out refIpSize rfl rfZ_one ?_) | (go_at_call 18; refine (HN2.out _).mono ?_; rintro e wq ⟨rfl, rfl⟩))
  (try simp only [Exit.inBlock, Exit.then])
  refine bodyPost_ret (results_cell_tmp_row rfl _ _ n _ #[.int .u32 0, .int .u32 0, .bool false, .bool false, .int .i64 0, .int .u32 0, .int .u32 0, .int .u32 0, .int .u32 0, .string ⟨#[]⟩] (0, 0) _ rfl (setRow_heap _ _ _ _ _ _ HZ.out) Tryd.underlying34 rfl refIpSize) rfl ?_
  exact ⟨rfl, below_row HB.out (by rw [HNN.out]; exact Nat.le_refl _) _⟩
set_option maxRecDepth 100000 in
set_option maxHeartbeats 4000000 in
theorem refParse_long (h : Hd) (hh : h.In) (r : List UInt8) (hr : r.length ≤ 2980) (h1 : h.first / 16 = 4) (h2 : h.first % 16 = 5) (h3 : 20 ≤ h.size) (h4 : 20 + r.length < h.size) (w : World) :
    Calls Tryd.prog 7 #[.string (txt (h.bs ++ r))] w (RfErr ⟨#[105, 112, 118, 52, 58, 32, 101, 114, 114, 111, 114, 32, 50]⟩ w) := by
  have HZ := Lib.hid (heap_alloc_new w (.cells #[.int .u32 0, .int .u32 0, .bool false, .bool false, .int .i64 0, .int .u32 0, .int .u32 0, .int .u32 0, .int .u32 0, .string ⟨#[]⟩] 34))
  have HB := Lib.hid (below_al (Below.refl w.heap.size w) (.cells #[.int .u32 0, .int .u32 0, .bool false, .bool false, .int .i64 0, .int .u32 0, .int .u32 0, .int .u32 0, .int .u32 0, .string ⟨#[]⟩] 34))
  obtain ⟨N, hN⟩ : ∃ N, 20 + r.length = N := ⟨_, rfl⟩
  have n1 : 20 ≤ N := by omega
  have n2 : N ≤ 3000 := by omega
  have n3 : decide (N < 20) = false := decide_eq_false (by omega)
  have n4 : (20 : Int) ≤ (N : Int) := by omega
  have n5 : (N : Int) ≤ 3000 := by omega
  have hz : (txt (h.bs ++ r)).size = N := by rw [txt_size, List.length_append, Hd.bs_len, hN]
  have e0 : ∀ W, (Instr.index 9 (.string (txt (h.bs ++ r))) (.int .i64 0)).run Tryd.prog W = .ok (.int .u8 (h.first : Int)) W := fun W => by rw [txt_index (h.bs ++ r) 0 (UInt8.ofNat h.first) rfl 0 rfl W, ofNat_one hh.first]
  obtain ⟨a, ha⟩ : ∃ a : Int, (h.first : Int) / 16 = a := ⟨_, rfl⟩
  obtain ⟨b, hb⟩ : ∃ b : Int, (h.first : Int) % 16 = b := ⟨_, rfl⟩
  have ha1 : (h.first : Int).tdiv 16 = a := by rw [Int.tdiv_eq_ediv_of_nonneg (by omega)]; exact ha
  have hb1 : (h.first : Int).tmod 16 = b := by rw [Int.tmod_eq_emod_of_nonneg (by omega)]; exact hb
  have hf := hh.first
  have a0 : 0 ≤ a := by omega
  have a1 : a < 16 := by omega
  have b0 : 0 ≤ b := by omega
  have b1 : b < 16 := by omega
  have ae1 : (a == 4) = true := by simp; omega
  have ae2 : decide (a = 4) = true := by simp; omega
  have ae3 : (a != 4) = false := by simp; omega
  have x24 : (txt (h.bs ++ r)).extract 2 4 = txt (be2 h.size) := by rw [vtxt_mid]; rfl
  obtain ⟨S, hS⟩ : ∃ S : Int, (h.size : Int) = S := ⟨_, rfl⟩
  have HN2 : Hid (∀ W, Calls Tryd.prog 18 #[.string (txt (be2 h.size))] W fun e w' => e = .returned (.int .u32 S) ∧ W = w') := fun W => by rw [← hS]; exact vNum2 h.size hh.size W
  have s0 : 0 ≤ S := by omega
  have s2 : S < 65536 := by have := hh.size; omega
  generalize txt (be2 h.size) = t24 at *
  have s1 : IntKind.i64.wrap S = S := i64_wrapI _ (by omega) (by omega)
  have b3 : decide (b < 5) = false := decide_eq_false (by omega)
  have b4 : decide (5 < b) = false := decide_eq_false (by omega)
  have s3 : decide (S < 20) = false := decide_eq_false (by omega)
  have s4 : (N : Int) < S := by omega
  have s4b : decide ((N : Int) < S) = true := decide_eq_true s4
  clear hS
  clear hf hh
  generalize h.first = F at *
  generalize txt (h.bs ++ r) = tl at *
  unfold RfErr
  go_enter Tryd.func7, Tryd.ntmps7
  go_upto_region 1 with fail
  generalize w.alloc (.cells #[.int .u32 0, .int .u32 0, .bool false, .bool false, .int .i64 0, .int .u32 0, .int .u32 0, .int .u32 0, .int .u32 0, .string ⟨#[]⟩] 34) = W0 at *
  generalize hnn : w.heap.size = n at HZ ⊢
  have HNN := Lib.hid hnn
  clear hnn
  go_wp2_with (first | (refine wpList_store_row rfl 34 (.tmp 2) (.tmp 38) rfl n #[.int .u32 0, .int .u32 0, .bool false, .bool false, .int .i64 0, .int .u32 0, .int .u32 0, .int .u32 0, .int .u32 0, .string ⟨#[]⟩] rfl rfl 34 _ HZ.out refIpSize rfl rfZ_one ?_) | (go_at_call 18; refine (HN2.out _).mono ?_; rintro e wq ⟨rfl, rfl⟩))
  (try simp only [Exit.inBlock, Exit.then])
  refine bodyPost_ret (results_cell_tmp_row rfl _ _ n _ #[.int .u32 0, .int .u32 0, .bool false, .bool false, .int .i64 0, .int .u32 0, .int .u32 0, .int .u32 0, .int .u32 0, .string ⟨#[]⟩] (0, 0) _ rfl (setRow_heap _ _ _ _ _ _ HZ.out) Tryd.underlying34 rfl refIpSize) rfl ?_
  exact ⟨rfl, below_row HB.out (by rw [HNN.out]; exact Nat.le_refl _) _⟩
set_option maxRecDepth 100000 in
set_option maxHeartbeats 4000000 in
theorem refParse_sum (h : Hd) (hh : h.In) (r : List UInt8) (hr : r.length ≤ 2980) (h1 : h.first / 16 = 4) (h2 : h.first % 16 = 5) (h3 : 20 ≤ h.size) (h4 : h.size ≤ 20 + r.length) (h5 : ck h.bs ≠ 0) (w : World) :
    Calls Tryd.prog 7 #[.string (txt (h.bs ++ r))] w (RfErr ⟨#[105, 112, 118, 52, 58, 32, 101, 114, 114, 111, 114, 32, 52]⟩ w) := by
  have HZ := Lib.hid (heap_alloc_new w (.cells #[.int .u32 0, .int .u32 0, .bool false, .bool false, .int .i64 0, .int .u32 0, .int .u32 0, .int .u32 0, .int .u32 0, .string ⟨#[]⟩] 34))
  have HB := Lib.hid (below_al (Below.refl w.heap.size w) (.cells #[.int .u32 0, .int .u32 0, .bool false, .bool false, .int .i64 0, .int .u32 0, .int .u32 0, .int .u32 0, .int .u32 0, .string ⟨#[]⟩] 34))
  obtain ⟨N, hN⟩ : ∃ N, 20 + r.length = N := ⟨_, rfl⟩
  have n1 : 20 ≤ N := by omega
  have n2 : N ≤ 3000 := by omega
  have n3 : decide (N < 20) = false := decide_eq_false (by omega)
  have n4 : (20 : Int) ≤ (N : Int) := by omega
  have n5 : (N : Int) ≤ 3000 := by omega
  have hz : (txt (h.bs ++ r)).size = N := by rw [txt_size, List.length_append, Hd.bs_len, hN]
  have e0 : ∀ W, (Instr.index 9 (.string (txt (h.bs ++ r))) (.int .i64 0)).run Tryd.prog W = .ok (.int .u8 (h.first : Int)) W := fun W => by rw [txt_index (h.bs ++ r) 0 (UInt8.ofNat h.first) rfl 0 rfl W, ofNat_one hh.first]
  obtain ⟨a, ha⟩ : ∃ a : Int, (h.first : Int) / 16 = a := ⟨_, rfl⟩
  obtain ⟨b, hb⟩ : ∃ b : Int, (h.first : Int) % 16 = b := ⟨_, rfl⟩
  have ha1 : (h.first : Int).tdiv 16 = a := by rw [Int.tdiv_eq_ediv_of_nonneg (by omega)]; exact ha
  have hb1 : (h.first : Int).tmod 16 = b := by rw [Int.tmod_eq_emod_of_nonneg (by omega)]; exact hb
  have hf := hh.first
  have a0 : 0 ≤ a := by omega
  have a1 : a < 16 := by omega
  have b0 : 0 ≤ b := by omega
  have b1 : b < 16 := by omega
  have ae1 : (a == 4) = true := by simp; omega
  have ae2 : decide (a = 4) = true := by simp; omega
  have ae3 : (a != 4) = false := by simp; omega
  have x24 : (txt (h.bs ++ r)).extract 2 4 = txt (be2 h.size) := by rw [vtxt_mid]; rfl
  obtain ⟨S, hS⟩ : ∃ S : Int, (h.size : Int) = S := ⟨_, rfl⟩
  have HN2 : Hid (∀ W, Calls Tryd.prog 18 #[.string (txt (be2 h.size))] W fun e w' => e = .returned (.int .u32 S) ∧ W = w') := fun W => by rw [← hS]; exact vNum2 h.size hh.size W
  have s0 : 0 ≤ S := by omega
  have s2 : S < 65536 := by have := hh.size; omega
  generalize txt (be2 h.size) = t24 at *
  have s1 : IntKind.i64.wrap S = S := i64_wrapI _ (by omega) (by omega)
  have b3 : decide (b < 5) = false := decide_eq_false (by omega)
  have b4 : decide (5 < b) = false := decide_eq_false (by omega)
  have s3 : decide (S < 20) = false := decide_eq_false (by omega)
  have s4 : decide ((N : Int) < S) = false := decide_eq_false (by omega)
  have s5 : S ≤ (N : Int) := by omega
  have s6 : (20 : Int) ≤ S := by omega
  have x020 : (txt (h.bs ++ r)).extract 0 20 = txt h.bs := by rw [vtxt_mid, List.drop_zero]; exact congrArg txt (List.take_left' (Hd.bs_len h))
  have HSM : Hid (∀ W, _) := fun W => refSum_any h.bs (by rw [Hd.bs_len]; decide) W
  generalize txt h.bs = t020 at *
  obtain ⟨K, hK⟩ : ∃ K : Int, ((ck h.bs : Nat) : Int) = K := ⟨_, rfl⟩
  have Ke1 : (K == 0) = false := by simp; omega
  have Ke2 : decide (K = 0) = false := by simp; omega
  have Ke3 : (K != 0) = true := by simp; omega
  rw [hK] at HSM
  clear hS hK h5
  clear hf hh
  generalize h.first = F at *
  generalize txt (h.bs ++ r) = tl at *
  unfold RfErr
  go_enter Tryd.func7, Tryd.ntmps7
  go_upto_region 1 with fail
  generalize w.alloc (.cells #[.int .u32 0, .int .u32 0, .bool false, .bool false, .int .i64 0, .int .u32 0, .int .u32 0, .int .u32 0, .int .u32 0, .string ⟨#[]⟩] 34) = W0 at *
  generalize hnn : w.heap.size = n at HZ ⊢
  have HNN := Lib.hid hnn
  clear hnn
  go_wp2_with (go_at_call 18; refine (HN2.out _).mono ?_; rintro e wq ⟨rfl, rfl⟩)
  refine (HSM.out _).mono ?_
  rintro e w2 ⟨rfl, m, hm⟩
  have HB2 : Hid (Below n w w2) := by rw [hm]; exact dr_below (by rw [← HNN.out]; exact HB.out) m
  have HZ2 : Hid (w2.heap[n]? = some (.cells #[.int .u32 0, .int .u32 0, .bool false, .bool false, .int .i64 0, .int .u32 0, .int .u32 0, .int .u32 0, .int .u32 0, .string ⟨#[]⟩] 34)) := by rw [hm]; exact HZ.out
  clear hm HZ HB
  have HZ := HZ2
  have HB : Hid (Below w.heap.size w w2) := by rw [HNN.out]; exact HB2.out
  clear HZ2 HB2
  go_wp2_with (refine wpList_store_row rfl 34 (.tmp 2) (.tmp 43) rfl n #[.int .u32 0, .int .u32 0, .bool false, .bool false, .int .i64 0, .int .u32 0, .int .u32 0, .int .u32 0, .int .u32 0, .string ⟨#[]⟩] rfl rfl 34 _ HZ.out refIpSize rfl rfZ_one ?_)
  (try simp only [Exit.inBlock, Exit.then])
  refine bodyPost_ret (results_cell_tmp_row rfl _ _ n _ #[.int .u32 0, .int .u32 0, .bool false, .bool false, .int .i64 0, .int .u32 0, .int .u32 0, .int .u32 0, .int .u32 0, .string ⟨#[]⟩] (0, 0) _ rfl (setRow_heap _ _ _ _ _ _ HZ.out) Tryd.underlying34 rfl refIpSize) rfl ?_
  exact ⟨rfl, below_row HB.out (by rw [HNN.out]; exact Nat.le_refl _) _⟩
end Go.Proofs.YtbielhdmikcngaaDoor
namespace Go.Proofs.YtbielhdmikcngaaDoor
open Go.RowKit

theorem u32_wrapI (z : Int) (h0 : 0 ≤ z) (h : z < 4294967296) : IntKind.u32.wrap z = z := by
  obtain ⟨n, rfl⟩ := Int.eq_ofNat_of_zero_le h0
  exact u32_fitsN n (by omega)
theorem below_drew' (w : World) : Below w.heap.size w w.drew := ⟨rfl, rfl, rfl, Nat.le_refl _, fun _ _ => rfl⟩
theorem build_ip5 (z : Ip) (tb : ByteArray) (W : World) : (Instr.build 34 #[(0, .int .u32 z.tos), (1, .int .u32 z.id), (2, .bool z.df), (3, .bool z.mf), (4, .int .i64 z.off), (5, .int .u32 z.ttl), (6, .int .u32 z.proto), (7, .int .u32 z.src), (8, .int .u32 z.dst), (9, .string tb)]).run Tryd.prog W = .ok (.agg #[.int .u32 z.tos, .int .u32 z.id, .bool z.df, .bool z.mf, .int .i64 z.off, .int .u32 z.ttl, .int .u32 z.proto, .int .u32 z.src, .int .u32 z.dst, .string tb]) W := run_build W _ _ _ (by kernel_rfl)
def RfOk (z : Ip) (w : World) (e : Ending) (w' : World) : Prop := e = .returned (.tuple #[.agg #[.int .u32 z.tos, .int .u32 z.id, .bool z.df, .bool z.mf, .int .i64 z.off, .int .u32 z.ttl, .int .u32 z.proto, .int .u32 z.src, .int .u32 z.dst, .string (txt z.b)], .string ⟨#[]⟩]) ∧ Below w.heap.size w w'
set_option maxRecDepth 100000 in
set_option maxHeartbeats 80000000 in
theorem refParse_rest (h : Hd) (hh : h.In) (r : List UInt8) (hr : r.length ≤ 2980) (h1 : h.first / 16 = 4) (h2 : h.first % 16 = 5) (h3 : 20 ≤ h.size) (h4 : h.size ≤ 20 + r.length) (h5 : ck h.bs = 0) (w : World) :
    Calls Tryd.prog 7 #[.string (txt (h.bs ++ r))] w fun e w' => ((32768 ≤ h.bits ∨ (h.ip (r.take (h.size - 20))).bad ≠ 0) ∧ RfErr ⟨#[105, 112, 118, 52, 58, 32, 101, 114, 114, 111, 114, 32, 51]⟩ w e w') ∨ (h.bits < 32768 ∧ (h.ip (r.take (h.size - 20))).bad = 0 ∧ RfOk (h.ip (r.take (h.size - 20))) w e w') := by
  have HZ := Lib.hid (heap_alloc_new w (.cells #[.int .u32 0, .int .u32 0, .bool false, .bool false, .int .i64 0, .int .u32 0, .int .u32 0, .int .u32 0, .int .u32 0, .string ⟨#[]⟩] 34))
  have HB := Lib.hid (below_al (Below.refl w.heap.size w) (.cells #[.int .u32 0, .int .u32 0, .bool false, .bool false, .int .i64 0, .int .u32 0, .int .u32 0, .int .u32 0, .int .u32 0, .string ⟨#[]⟩] 34))
  obtain ⟨N, hN⟩ : ∃ N, 20 + r.length = N := ⟨_, rfl⟩
  have n1 : 20 ≤ N := by omega
  have n2 : N ≤ 3000 := by omega
  have n3 : decide (N < 20) = false := decide_eq_false (by omega)
  have n4 : (20 : Int) ≤ (N : Int) := by omega
  have n5 : (N : Int) ≤ 3000 := by omega
  have hz : (txt (h.bs ++ r)).size = N := by rw [txt_size, List.length_append, Hd.bs_len, hN]
  have e0 : ∀ W, (Instr.index 9 (.string (txt (h.bs ++ r))) (.int .i64 0)).run Tryd.prog W = .ok (.int .u8 (h.first : Int)) W := fun W => by rw [txt_index (h.bs ++ r) 0 (UInt8.ofNat h.first) rfl 0 rfl W, ofNat_one hh.first]
  obtain ⟨a, ha⟩ : ∃ a : Int, (h.first : Int) / 16 = a := ⟨_, rfl⟩
  obtain ⟨b, hb⟩ : ∃ b : Int, (h.first : Int) % 16 = b := ⟨_, rfl⟩
  have ha1 : (h.first : Int).tdiv 16 = a := by rw [Int.tdiv_eq_ediv_of_nonneg (by omega)]; exact ha
  have hb1 : (h.first : Int).tmod 16 = b := by rw [Int.tmod_eq_emod_of_nonneg (by omega)]; exact hb
  have hf := hh.first
  have a0 : 0 ≤ a := by omega
  have a1 : a < 16 := by omega
  have b0 : 0 ≤ b := by omega
  have b1 : b < 16 := by omega
  have ae1 : (a == 4) = true := by simp; omega
  have ae2 : decide (a = 4) = true := by simp; omega
  have ae3 : (a != 4) = false := by simp; omega
  have x24 : (txt (h.bs ++ r)).extract 2 4 = txt (be2 h.size) := by rw [vtxt_mid]; rfl
  obtain ⟨S, hS⟩ : ∃ S : Int, (h.size : Int) = S := ⟨_, rfl⟩
  have HN2 : Hid (∀ W, Calls Tryd.prog 18 #[.string (txt (be2 h.size))] W fun e w' => e = .returned (.int .u32 S) ∧ W = w') := fun W => by rw [← hS]; exact vNum2 h.size hh.size W
  have s0 : 0 ≤ S := by omega
  have s2 : S < 65536 := by have := hh.size; omega
  generalize txt (be2 h.size) = t24 at *
  have s1 : IntKind.i64.wrap S = S := i64_wrapI _ (by omega) (by omega)
  have b3 : decide (b < 5) = false := decide_eq_false (by omega)
  have b4 : decide (5 < b) = false := decide_eq_false (by omega)
  have s3 : decide (S < 20) = false := decide_eq_false (by omega)
  have s4 : decide ((N : Int) < S) = false := decide_eq_false (by omega)
  have s5 : S ≤ (N : Int) := by omega
  have s6 : (20 : Int) ≤ S := by omega
  have x020 : (txt (h.bs ++ r)).extract 0 20 = txt h.bs := by rw [vtxt_mid, List.drop_zero]; exact congrArg txt (List.take_left' (Hd.bs_len h))
  have HSM : Hid (∀ W, _) := fun W => refSum_any h.bs (by rw [Hd.bs_len]; decide) W
  generalize txt h.bs = t020 at *
  rw [h5] at HSM
  have hzin := ip_in hh (r.take (h.size - 20)) (by rw [List.length_take]; omega)
  have zb : 20 + (r.take (h.size - 20)).length = h.size := by rw [List.length_take]; omega
  obtain ⟨z, hz'⟩ : ∃ z, h.ip (r.take (h.size - 20)) = z := ⟨_, rfl⟩
  rw [hz'] at hzin ⊢
  have zt : z.tos = h.tos := by rw [← hz']; rfl
  have zi : z.id = h.id := by rw [← hz']; rfl
  have zl : z.ttl = h.ttl := by rw [← hz']; rfl
  have zp : z.proto = h.proto := by rw [← hz']; rfl
  have zs : z.src = h.src := by rw [← hz']; rfl
  have zd : z.dst = h.dst := by rw [← hz']; rfl
  have zbb : z.b = r.take (h.size - 20) := by rw [← hz']; rfl
  have zdf : z.df = decide (h.bits / 16384 % 2 = 1) := by rw [← hz']; rfl
  have zmf : z.mf = decide (h.bits / 8192 % 2 = 1) := by rw [← hz']; rfl
  have zoff : z.off = ((h.bits % 8192 * 8 : Nat) : Int) := by rw [← hz']; rfl
  have e1 : ∀ W, (Instr.index 9 (.string (txt (h.bs ++ r))) (.int .i64 1)).run Tryd.prog W = .ok (.int .u8 (z.tos : Int)) W := fun W => by rw [zt, txt_index (h.bs ++ r) 1 (UInt8.ofNat h.tos) rfl 1 rfl W, ofNat_one hh.tos]
  have e8 : ∀ W, (Instr.index 9 (.string (txt (h.bs ++ r))) (.int .i64 8)).run Tryd.prog W = .ok (.int .u8 (z.ttl : Int)) W := fun W => by rw [zl, txt_index (h.bs ++ r) 8 (UInt8.ofNat h.ttl) rfl 8 rfl W, ofNat_one hh.ttl]
  have e9 : ∀ W, (Instr.index 9 (.string (txt (h.bs ++ r))) (.int .i64 9)).run Tryd.prog W = .ok (.int .u8 (z.proto : Int)) W := fun W => by rw [zp, txt_index (h.bs ++ r) 9 (UInt8.ofNat h.proto) rfl 9 rfl W, ofNat_one hh.proto]
  have k1 : IntKind.u32.wrap (z.tos : Int) = (z.tos : Int) := u32_fitsN _ (by have := hh.tos; omega)
  have k8 : IntKind.u32.wrap (z.ttl : Int) = (z.ttl : Int) := u32_fitsN _ (by have := hh.ttl; omega)
  have k9 : IntKind.u32.wrap (z.proto : Int) = (z.proto : Int) := u32_fitsN _ (by have := hh.proto; omega)
  have x68 : (txt (h.bs ++ r)).extract 6 8 = txt (be2 h.bits) := by rw [vtxt_mid]; rfl
  have x46 : (txt (h.bs ++ r)).extract 4 6 = txt (be2 h.id) := by rw [vtxt_mid]; rfl
  have x1216 : (txt (h.bs ++ r)).extract 12 16 = txt (be4 h.src) := by rw [vtxt_mid]; rfl
  have x1620 : (txt (h.bs ++ r)).extract 16 20 = txt (be4 h.dst) := by rw [vtxt_mid]; rfl
  have x20S : (txt (h.bs ++ r)).extract 20 S.toNat = txt z.b := by
    rw [vtxt_mid, zbb, List.drop_left' (Hd.bs_len h), show S.toNat = h.size by omega]
  obtain ⟨B, hB⟩ : ∃ B : Int, (h.bits : Int) = B := ⟨_, rfl⟩
  have HHZ : Hid (h.ip (r.take (h.size - 20)) = z) := hz'
  have HN68 : Hid (∀ W, Calls Tryd.prog 18 #[.string (txt (be2 h.bits))] W fun e w' => e = .returned (.int .u32 B) ∧ W = w') := fun W => by rw [← hB]; exact vNum2 h.bits hh.bits W
  have HN46 : Hid (∀ W, Calls Tryd.prog 18 #[.string (txt (be2 h.id))] W fun e w' => e = .returned (.int .u32 (z.id : Int)) ∧ W = w') := fun W => by rw [zi]; exact vNum2 h.id hh.id W
  have HN1216 : Hid (∀ W, Calls Tryd.prog 18 #[.string (txt (be4 h.src))] W fun e w' => e = .returned (.int .u32 (z.src : Int)) ∧ W = w') := fun W => by rw [zs]; exact vNum4 h.src hh.src W
  have HN1620 : Hid (∀ W, Calls Tryd.prog 18 #[.string (txt (be4 h.dst))] W fun e w' => e = .returned (.int .u32 (z.dst : Int)) ∧ W = w') := fun W => by rw [zd]; exact vNum4 h.dst hh.dst W
  obtain ⟨d1, hd1⟩ : ∃ d : Int, B / 8192 = d := ⟨_, rfl⟩
  obtain ⟨d2, hd2⟩ : ∃ d : Int, B / 16384 = d := ⟨_, rfl⟩
  obtain ⟨r8, hr8⟩ : ∃ r : Int, B % 8192 = r := ⟨_, rfl⟩
  obtain ⟨f1, hf1⟩ : ∃ f : Int, d1 % 2 = f := ⟨_, rfl⟩
  obtain ⟨f2, hf2⟩ : ∃ f : Int, d2 % 2 = f := ⟨_, rfl⟩
  have hbl := hh.bits
  have B0 : 0 ≤ B := by omega
  have B1 : B < 65536 := by omega
  have t1 : B.tdiv 8192 = d1 := by rw [Int.tdiv_eq_ediv_of_nonneg B0]; exact hd1
  have t2 : B.tdiv 16384 = d2 := by rw [Int.tdiv_eq_ediv_of_nonneg B0]; exact hd2
  have t3 : B.tmod 8192 = r8 := by rw [Int.tmod_eq_emod_of_nonneg B0]; exact hr8
  have t4 : d1.tmod 2 = f1 := by rw [Int.tmod_eq_emod_of_nonneg (by omega)]; exact hf1
  have t5 : d2.tmod 2 = f2 := by rw [Int.tmod_eq_emod_of_nonneg (by omega)]; exact hf2
  have c1 : (f1 == 1) = z.mf := by
    rw [zmf]
    by_cases hq : h.bits / 8192 % 2 = 1
    · have : f1 = 1 := by omega
      rw [this, decide_eq_true hq]
      rfl
    · rw [decide_eq_false hq, beq_eq_false_iff_ne]
      omega
  have c2 : (f2 == 1) = z.df := by
    rw [zdf]
    by_cases hq : h.bits / 16384 % 2 = 1
    · have : f2 = 1 := by omega
      rw [this, decide_eq_true hq]
      rfl
    · rw [decide_eq_false hq, beq_eq_false_iff_ne]
      omega
  have c3 : r8 * 8 = z.off := by rw [zoff]; omega
  have y1 : IntKind.u32.wrap d1 = d1 := u32_wrapI _ (by omega) (by omega)
  have y2 : IntKind.u32.wrap d2 = d2 := u32_wrapI _ (by omega) (by omega)
  have y3 : IntKind.u32.wrap f1 = f1 := u32_wrapI _ (by omega) (by omega)
  have y4 : IntKind.u32.wrap f2 = f2 := u32_wrapI _ (by omega) (by omega)
  have y5 : IntKind.u32.wrap r8 = r8 := u32_wrapI _ (by omega) (by omega)
  have m6 : ¬ (N : Int) < 6 := by omega
  have m16 : ¬ (N : Int) < 16 := by omega
  have m20 : ¬ (N : Int) < 20 := by omega
  have m7 : ¬ N < 6 := by omega
  have m17 : ¬ N < 16 := by omega
  have m21 : ¬ N < 20 := by omega
  have w1 : IntKind.i64.wrap r8 = r8 := i64_wrapI _ (by omega) (by omega)
  have w2 : IntKind.i64.wrap z.off = z.off := i64_wrapI _ (by omega) (by omega)
  have o1 : 0 ≤ d1 := by omega
  have o2 : d1 < 8 := by omega
  have o3 : 0 ≤ d2 := by omega
  have o4 : d2 < 8 := by omega
  have o5 : 0 ≤ r8 := by omega
  have o6 : r8 < 8192 := by omega
  have HBB : Hid ((h.bits : Int) = B) := hB
  have HRT : Hid (∀ W, _) := fun W => refRight_any z (by have := hzin.few; omega) W
  generalize txt (be2 h.bits) = t68 at *
  generalize txt (be2 h.id) = t46 at *
  generalize txt (be4 h.src) = t1216 at *
  generalize txt (be4 h.dst) = t1620 at *
  unfold RfOk
  generalize htb : txt z.b = tb at *
  have HTB := Lib.hid htb
  clear htb
  clear hS h5 hN hh hf zt zi zl zp zs zd zbb zdf zmf zoff zb hzin hz' hB hbl hd1 hd2 hr8 hf1 hf2
  generalize h.first = F at *
  generalize txt (h.bs ++ r) = tl at *
  unfold RfErr
  go_enter Tryd.func7, Tryd.ntmps7
  go_upto_region 1 with fail
  generalize w.alloc (.cells #[.int .u32 0, .int .u32 0, .bool false, .bool false, .int .i64 0, .int .u32 0, .int .u32 0, .int .u32 0, .int .u32 0, .string ⟨#[]⟩] 34) = W0 at *
  generalize hnn : w.heap.size = n at HZ ⊢
  have HNN := Lib.hid hnn
  clear hnn
  go_wp2_with (go_at_call 18; refine (HN2.out _).mono ?_; rintro e wq ⟨rfl, rfl⟩)
  refine (HSM.out _).mono ?_
  rintro e w2 ⟨rfl, m, hm⟩
  have HB2 : Hid (Below w.heap.size w w2) := by rw [hm]; exact dr_below HB.out m
  have HZ2 : Hid (w2.heap[n]? = some (.cells #[.int .u32 0, .int .u32 0, .bool false, .bool false, .int .i64 0, .int .u32 0, .int .u32 0, .int .u32 0, .int .u32 0, .string ⟨#[]⟩] 34)) := by rw [hm]; exact HZ.out
  clear hm HZ HB
  have HZ := HZ2
  have HB := HB2
  clear HZ2 HB2
  have HNL : Hid (n < w2.heap.size) := (Array.getElem?_eq_some_iff.1 HZ.out).1
  go_upto_region 17 with (go_at_call 18; refine (HN68.out _).mono ?_; rintro e wq ⟨rfl, rfl⟩)
  clear e0 x24 x020 x68 HN2 HSM HN68 a0 a1 b0 b1 ae1 ae2 ae3 b3 b4 s3 s4 n1 n2 n3
  go_cut [6] (fun s6 wx => ∃ g, s6 = .pointer (some ⟨g, 0, none⟩) ∧ wx.heap[g]? = some (.cells #[.int .u32 z.tos, .int .u32 z.id, .bool z.df, .bool z.mf, .int .i64 z.off, .int .u32 z.ttl, .int .u32 z.proto, .int .u32 z.src, .int .u32 z.dst, .string tb] 34) ∧ wx.heap[n]? = some (.cells #[.int .u32 0, .int .u32 0, .bool false, .bool false, .int .i64 0, .int .u32 0, .int .u32 0, .int .u32 0, .int .u32 0, .string ⟨#[]⟩] 34) ∧ Below w.heap.size w wx)
  case first =>
    refine wp_region_any (by kernel_rfl) ?_
    change wpAny _ _ _ _ _ _ _ (World.drew _)
    refine wpAny_take (i := 0) (oi := ⟨some 47, _, _, _, _, _⟩) (v := (.string tl)) rfl (by kernel_rfl) (by kernel_rfl) (by kernel_rfl) (fun _ _ _ h => h) (Or.inl ⟨by rfl, ?_⟩) ?_
    · intro W
      go_simp
    try simp only [Act.put, List.setIfInBounds_toArray, List.set_cons_zero, List.set_cons_succ]
    refine wpAny_take (i := 1) (oi := ⟨some 48, _, _, _, _, _⟩) (v := (.int .u8 (z.tos : Int))) rfl (by kernel_rfl) (by kernel_rfl) (by kernel_rfl) (fun _ _ _ h => h) (Or.inl ⟨by rfl, ?_⟩) ?_
    · intro W
      go_simp
    try simp only [Act.put, List.setIfInBounds_toArray, List.set_cons_zero, List.set_cons_succ]
    refine wpAny_take (i := 2) (oi := ⟨some 49, _, _, _, _, _⟩) (v := (.int .u32 (z.tos : Int))) rfl (by kernel_rfl) (by kernel_rfl) (by kernel_rfl) (fun _ _ _ h => h) (Or.inl ⟨by rfl, ?_⟩) ?_
    · intro W
      go_simp
    try simp only [Act.put, List.setIfInBounds_toArray, List.set_cons_zero, List.set_cons_succ]
    refine wpAny_take (i := 3) (oi := ⟨some 50, _, _, _, _, _⟩) (v := (.string tl)) rfl (by kernel_rfl) (by kernel_rfl) (by kernel_rfl) (fun _ _ _ h => h) (Or.inl ⟨by rfl, ?_⟩) ?_
    · intro W
      go_simp
    try simp only [Act.put, List.setIfInBounds_toArray, List.set_cons_zero, List.set_cons_succ]
    refine wpAny_take (i := 4) (oi := ⟨some 51, _, _, _, _, _⟩) (v := (.string t46)) rfl (by kernel_rfl) (by kernel_rfl) (by kernel_rfl) (fun _ _ _ h => h) (Or.inl ⟨by rfl, ?_⟩) ?_
    · intro W
      go_simp
    try simp only [Act.put, List.setIfInBounds_toArray, List.set_cons_zero, List.set_cons_succ]
    refine wpAny_take (i := 6) (oi := ⟨some 53, _, _, _, _, _⟩) (v := (.int .u32 B)) rfl (by kernel_rfl) (by kernel_rfl) (by kernel_rfl) (fun _ _ _ h => h) (Or.inl ⟨by rfl, ?_⟩) ?_
    · intro W
      go_simp
    try simp only [Act.put, List.setIfInBounds_toArray, List.set_cons_zero, List.set_cons_succ]
    refine wpAny_take (i := 7) (oi := ⟨some 54, _, _, _, _, _⟩) (v := (.int .u32 d2)) rfl (by kernel_rfl) (by kernel_rfl) (by kernel_rfl) (fun _ _ _ h => h) (Or.inl ⟨by rfl, ?_⟩) ?_
    · intro W
      go_simp
    try simp only [Act.put, List.setIfInBounds_toArray, List.set_cons_zero, List.set_cons_succ]
    refine wpAny_take (i := 8) (oi := ⟨some 55, _, _, _, _, _⟩) (v := (.int .u32 f2)) rfl (by kernel_rfl) (by kernel_rfl) (by kernel_rfl) (fun _ _ _ h => h) (Or.inl ⟨by rfl, ?_⟩) ?_
    · intro W
      go_simp
    try simp only [Act.put, List.setIfInBounds_toArray, List.set_cons_zero, List.set_cons_succ]
    refine wpAny_take (i := 9) (oi := ⟨some 56, _, _, _, _, _⟩) (v := (.bool z.df)) rfl (by kernel_rfl) (by kernel_rfl) (by kernel_rfl) (fun _ _ _ h => h) (Or.inl ⟨by rfl, ?_⟩) ?_
    · intro W
      go_simp
    try simp only [Act.put, List.setIfInBounds_toArray, List.set_cons_zero, List.set_cons_succ]
    refine wpAny_take (i := 10) (oi := ⟨some 57, _, _, _, _, _⟩) (v := (.int .u32 B)) rfl (by kernel_rfl) (by kernel_rfl) (by kernel_rfl) (fun _ _ _ h => h) (Or.inl ⟨by rfl, ?_⟩) ?_
    · intro W
      go_simp
    try simp only [Act.put, List.setIfInBounds_toArray, List.set_cons_zero, List.set_cons_succ]
    refine wpAny_take (i := 11) (oi := ⟨some 58, _, _, _, _, _⟩) (v := (.int .u32 d1)) rfl (by kernel_rfl) (by kernel_rfl) (by kernel_rfl) (fun _ _ _ h => h) (Or.inl ⟨by rfl, ?_⟩) ?_
    · intro W
      go_simp
    try simp only [Act.put, List.setIfInBounds_toArray, List.set_cons_zero, List.set_cons_succ]
    refine wpAny_take (i := 12) (oi := ⟨some 59, _, _, _, _, _⟩) (v := (.int .u32 f1)) rfl (by kernel_rfl) (by kernel_rfl) (by kernel_rfl) (fun _ _ _ h => h) (Or.inl ⟨by rfl, ?_⟩) ?_
    · intro W
      go_simp
    try simp only [Act.put, List.setIfInBounds_toArray, List.set_cons_zero, List.set_cons_succ]
    refine wpAny_take (i := 13) (oi := ⟨some 60, _, _, _, _, _⟩) (v := (.bool z.mf)) rfl (by kernel_rfl) (by kernel_rfl) (by kernel_rfl) (fun _ _ _ h => h) (Or.inl ⟨by rfl, ?_⟩) ?_
    · intro W
      go_simp
    try simp only [Act.put, List.setIfInBounds_toArray, List.set_cons_zero, List.set_cons_succ]
    refine wpAny_take (i := 14) (oi := ⟨some 61, _, _, _, _, _⟩) (v := (.int .u32 B)) rfl (by kernel_rfl) (by kernel_rfl) (by kernel_rfl) (fun _ _ _ h => h) (Or.inl ⟨by rfl, ?_⟩) ?_
    · intro W
      go_simp
    try simp only [Act.put, List.setIfInBounds_toArray, List.set_cons_zero, List.set_cons_succ]
    refine wpAny_take (i := 15) (oi := ⟨some 62, _, _, _, _, _⟩) (v := (.int .u32 r8)) rfl (by kernel_rfl) (by kernel_rfl) (by kernel_rfl) (fun _ _ _ h => h) (Or.inl ⟨by rfl, ?_⟩) ?_
    · intro W
      go_simp
    try simp only [Act.put, List.setIfInBounds_toArray, List.set_cons_zero, List.set_cons_succ]
    refine wpAny_take (i := 16) (oi := ⟨some 63, _, _, _, _, _⟩) (v := (.int .i64 r8)) rfl (by kernel_rfl) (by kernel_rfl) (by kernel_rfl) (fun _ _ _ h => h) (Or.inl ⟨by rfl, ?_⟩) ?_
    · intro W
      go_simp
    try simp only [Act.put, List.setIfInBounds_toArray, List.set_cons_zero, List.set_cons_succ]
    as_aux_lemma =>
      refine wpAny_take (i := 17) (oi := ⟨some 64, _, _, _, _, _⟩) (v := (.int .i64 z.off)) rfl (by kernel_rfl) (by kernel_rfl) (by kernel_rfl) (fun _ _ _ h => h) (Or.inl ⟨by rfl, ?_⟩) ?_
      · intro W
        go_simp
      try simp only [Act.put, List.setIfInBounds_toArray, List.set_cons_zero, List.set_cons_succ]
      refine wpAny_take (i := 18) (oi := ⟨some 65, _, _, _, _, _⟩) (v := (.string tl)) rfl (by kernel_rfl) (by kernel_rfl) (by kernel_rfl) (fun _ _ _ h => h) (Or.inl ⟨by rfl, ?_⟩) ?_
      · intro W
        go_simp
      try simp only [Act.put, List.setIfInBounds_toArray, List.set_cons_zero, List.set_cons_succ]
      refine wpAny_take (i := 19) (oi := ⟨some 66, _, _, _, _, _⟩) (v := (.int .u8 (z.ttl : Int))) rfl (by kernel_rfl) (by kernel_rfl) (by kernel_rfl) (fun _ _ _ h => h) (Or.inl ⟨by rfl, ?_⟩) ?_
      · intro W
        go_simp
      try simp only [Act.put, List.setIfInBounds_toArray, List.set_cons_zero, List.set_cons_succ]
      refine wpAny_take (i := 20) (oi := ⟨some 67, _, _, _, _, _⟩) (v := (.int .u32 (z.ttl : Int))) rfl (by kernel_rfl) (by kernel_rfl) (by kernel_rfl) (fun _ _ _ h => h) (Or.inl ⟨by rfl, ?_⟩) ?_
      · intro W
        go_simp
      try simp only [Act.put, List.setIfInBounds_toArray, List.set_cons_zero, List.set_cons_succ]
      refine wpAny_take (i := 21) (oi := ⟨some 68, _, _, _, _, _⟩) (v := (.string tl)) rfl (by kernel_rfl) (by kernel_rfl) (by kernel_rfl) (fun _ _ _ h => h) (Or.inl ⟨by rfl, ?_⟩) ?_
      · intro W
        go_simp
      try simp only [Act.put, List.setIfInBounds_toArray, List.set_cons_zero, List.set_cons_succ]
      refine wpAny_take (i := 22) (oi := ⟨some 69, _, _, _, _, _⟩) (v := (.int .u8 (z.proto : Int))) rfl (by kernel_rfl) (by kernel_rfl) (by kernel_rfl) (fun _ _ _ h => h) (Or.inl ⟨by rfl, ?_⟩) ?_
      · intro W
        go_simp
      try simp only [Act.put, List.setIfInBounds_toArray, List.set_cons_zero, List.set_cons_succ]
      refine wpAny_take (i := 23) (oi := ⟨some 70, _, _, _, _, _⟩) (v := (.int .u32 (z.proto : Int))) rfl (by kernel_rfl) (by kernel_rfl) (by kernel_rfl) (fun _ _ _ h => h) (Or.inl ⟨by rfl, ?_⟩) ?_
      · intro W
        go_simp
      try simp only [Act.put, List.setIfInBounds_toArray, List.set_cons_zero, List.set_cons_succ]
      refine wpAny_take (i := 24) (oi := ⟨some 71, _, _, _, _, _⟩) (v := (.string tl)) rfl (by kernel_rfl) (by kernel_rfl) (by kernel_rfl) (fun _ _ _ h => h) (Or.inl ⟨by rfl, ?_⟩) ?_
      · intro W
        go_simp
      try simp only [Act.put, List.setIfInBounds_toArray, List.set_cons_zero, List.set_cons_succ]
      refine wpAny_take (i := 25) (oi := ⟨some 72, _, _, _, _, _⟩) (v := (.string t1216)) rfl (by kernel_rfl) (by kernel_rfl) (by kernel_rfl) (fun _ _ _ h => h) (Or.inl ⟨by rfl, ?_⟩) ?_
      · intro W
        go_simp
      try simp only [Act.put, List.setIfInBounds_toArray, List.set_cons_zero, List.set_cons_succ]
      refine wpAny_take (i := 27) (oi := ⟨some 74, _, _, _, _, _⟩) (v := (.string tl)) rfl (by kernel_rfl) (by kernel_rfl) (by kernel_rfl) (fun _ _ _ h => h) (Or.inl ⟨by rfl, ?_⟩) ?_
      · intro W
        go_simp
      try simp only [Act.put, List.setIfInBounds_toArray, List.set_cons_zero, List.set_cons_succ]
      refine wpAny_take (i := 28) (oi := ⟨some 75, _, _, _, _, _⟩) (v := (.string t1620)) rfl (by kernel_rfl) (by kernel_rfl) (by kernel_rfl) (fun _ _ _ h => h) (Or.inl ⟨by rfl, ?_⟩) ?_
      · intro W
        go_simp
      try simp only [Act.put, List.setIfInBounds_toArray, List.set_cons_zero, List.set_cons_succ]
      refine wpAny_take (i := 30) (oi := ⟨some 77, _, _, _, _, _⟩) (v := (.string tl)) rfl (by kernel_rfl) (by kernel_rfl) (by kernel_rfl) (fun _ _ _ h => h) (Or.inl ⟨by rfl, ?_⟩) ?_
      · intro W
        go_simp
      try simp only [Act.put, List.setIfInBounds_toArray, List.set_cons_zero, List.set_cons_succ]
      refine wpAny_take (i := 31) (oi := ⟨some 78, _, _, _, _, _⟩) (v := (.int .i64 S)) rfl (by kernel_rfl) (by kernel_rfl) (by kernel_rfl) (fun _ _ _ h => h) (Or.inl ⟨by rfl, ?_⟩) ?_
      · intro W
        go_simp
      try simp only [Act.put, List.setIfInBounds_toArray, List.set_cons_zero, List.set_cons_succ]
      refine wpAny_take (i := 32) (oi := ⟨some 79, _, _, _, _, _⟩) (v := (.string tb)) rfl (by kernel_rfl) (by kernel_rfl) (by kernel_rfl) (fun _ _ _ h => h) (Or.inl ⟨by rfl, ?_⟩) ?_
      · intro W
        go_simp
      try simp only [Act.put, List.setIfInBounds_toArray, List.set_cons_zero, List.set_cons_succ]
      as_aux_lemma =>
        refine wpAny_ready (rs := [5, 34]) (by kernel_rfl) (by simp) ?_
        refine AllReady.cons (o := ⟨some 52, _, _, _, _, _⟩) rfl (fun K hK => ?_) ?_
        · have hk := Lib.hid hK
          clear hK
          go_simp
          go_at_call 18
          refine (HN46.out _).mono ?_
          rintro e wq ⟨rfl, rfl⟩
          dsimp only
          refine hk.out _ _ ?_
          clear hk K
          try simp only [Act.put, List.setIfInBounds_toArray, List.set_cons_zero, List.set_cons_succ]
          refine wpAny_ready (rs := [26, 34]) (by kernel_rfl) (by simp) ?_
          refine AllReady.cons (o := ⟨some 73, _, _, _, _, _⟩) rfl (fun K hK => ?_) ?_
          · have hk := Lib.hid hK
            clear hK
            go_simp
            go_at_call 18
            refine (HN1216.out _).mono ?_
            rintro e wq ⟨rfl, rfl⟩
            dsimp only
            refine hk.out _ _ ?_
            clear hk K
            try simp only [Act.put, List.setIfInBounds_toArray, List.set_cons_zero, List.set_cons_succ]
            refine wpAny_ready (rs := [29, 34]) (by kernel_rfl) (by simp) ?_
            refine AllReady.cons (o := ⟨some 76, _, _, _, _, _⟩) rfl (fun K hK => ?_) ?_
            · have hk := Lib.hid hK
              clear hK
              go_simp
              go_at_call 18
              refine (HN1620.out _).mono ?_
              rintro e wq ⟨rfl, rfl⟩
              dsimp only
              refine hk.out _ _ ?_
              clear hk K
              try simp only [Act.put, List.setIfInBounds_toArray, List.set_cons_zero, List.set_cons_succ]
              refine wpAny_take (i := 33) (oi := ⟨some 80, _, _, _, _, _⟩) (v := (.agg #[.int .u32 z.tos, .int .u32 z.id, .bool z.df, .bool z.mf, .int .i64 z.off, .int .u32 z.ttl, .int .u32 z.proto, .int .u32 z.src, .int .u32 z.dst, .string tb])) rfl (by kernel_rfl) (by kernel_rfl) (by kernel_rfl) (fun _ _ _ h => h) (Or.inl ⟨by rfl, ?_⟩) ?_
              · intro W
                have hb := build_ip5 z tb W
                simp only [execOp, List.map_toArray, List.map_cons, List.map_nil, Act.eval]
                show Sem.run _ (do let x ← Instr.build 34 #[(0, .int .u32 z.tos), (1, .int .u32 z.id), (2, .bool z.df), (3, .bool z.mf), (4, .int .i64 z.off), (5, .int .u32 z.ttl), (6, .int .u32 z.proto), (7, .int .u32 z.src), (8, .int .u32 z.dst), (9, .string tb)]; pure (Next.value x)) W = _
                rw [Sem.run_bind, hb]
                rfl
              try simp only [Act.put, List.setIfInBounds_toArray, List.set_cons_zero, List.set_cons_succ]
              refine wpAny_ready (rs := [34]) (by kernel_rfl) (by simp) ?_
              refine AllReady.cons (o := ⟨some 6, _, _, _, _, _⟩) rfl (fun K hK => ?_) ?_
              · go_simp
                refine hK _ _ ?_
                clear hK K
                try simp only [Act.put, List.setIfInBounds_toArray, List.set_cons_zero, List.set_cons_succ]
                refine wpAny_ready (rs := [35]) (by kernel_rfl) (by simp) ?_
                refine AllReady.cons (o := ⟨none, _, _, _, _, _⟩) rfl (fun K hK => ?_) ?_
                · refine step_store_row rfl 34 (.tmp 6) (.tmp 80) rfl w2.heap.size #[.int .u32 z.tos, .int .u32 z.id, .bool z.df, .bool z.mf, .int .i64 z.off, .int .u32 z.ttl, .int .u32 z.proto, .int .u32 z.src, .int .u32 z.dst, .string tb] rfl rfl 34 _ (heap_alloc_new w2.drew _) refIpSize rfl (by simp [Value.oneCell']) rfl ?_
                  refine hK _ _ ?_
                  clear hK K
                  try simp only [Act.put]
                  refine wpAny_done (by kernel_rfl) ?_ _
                  go_wp2_with fail
                  go_meet
                  exact ⟨_, rfl, setRow_heap _ _ _ _ _ _ (heap_alloc_new w2.drew _), (setRow_other _ _ _ (Nat.ne_of_lt HNL.out)).trans (be_block (below_al (Below.refl _ _) _) (show w2.drew.heap[n]? = _ from HZ.out)), below_row (below_al (vbelow_dr HB.out) _) HB.out.size _⟩
                exact AllReady.nil
              exact AllReady.nil
            refine AllReady.cons (o := ⟨some 6, _, _, _, _, _⟩) rfl (fun K hK => ?_) ?_
            · go_simp
              refine hK _ _ ?_
              clear hK K
              try simp only [Act.put, List.setIfInBounds_toArray, List.set_cons_zero, List.set_cons_succ]
              refine wpAny_ready (rs := [29]) (by kernel_rfl) (by simp) ?_
              refine AllReady.cons (o := ⟨some 76, _, _, _, _, _⟩) rfl (fun K hK => ?_) ?_
              · have hk := Lib.hid hK
                clear hK
                go_simp
                go_at_call 18
                refine (HN1620.out _).mono ?_
                rintro e wq ⟨rfl, rfl⟩
                dsimp only
                refine hk.out _ _ ?_
                clear hk K
                try simp only [Act.put, List.setIfInBounds_toArray, List.set_cons_zero, List.set_cons_succ]
                refine wpAny_take (i := 33) (oi := ⟨some 80, _, _, _, _, _⟩) (v := (.agg #[.int .u32 z.tos, .int .u32 z.id, .bool z.df, .bool z.mf, .int .i64 z.off, .int .u32 z.ttl, .int .u32 z.proto, .int .u32 z.src, .int .u32 z.dst, .string tb])) rfl (by kernel_rfl) (by kernel_rfl) (by kernel_rfl) (fun _ _ _ h => h) (Or.inl ⟨by rfl, ?_⟩) ?_
                · intro W
                  have hb := build_ip5 z tb W
                  simp only [execOp, List.map_toArray, List.map_cons, List.map_nil, Act.eval]
                  show Sem.run _ (do let x ← Instr.build 34 #[(0, .int .u32 z.tos), (1, .int .u32 z.id), (2, .bool z.df), (3, .bool z.mf), (4, .int .i64 z.off), (5, .int .u32 z.ttl), (6, .int .u32 z.proto), (7, .int .u32 z.src), (8, .int .u32 z.dst), (9, .string tb)]; pure (Next.value x)) W = _
                  rw [Sem.run_bind, hb]
                  rfl
                try simp only [Act.put, List.setIfInBounds_toArray, List.set_cons_zero, List.set_cons_succ]
                refine wpAny_ready (rs := [35]) (by kernel_rfl) (by simp) ?_
                refine AllReady.cons (o := ⟨none, _, _, _, _, _⟩) rfl (fun K hK => ?_) ?_
                · refine step_store_row rfl 34 (.tmp 6) (.tmp 80) rfl w2.heap.size #[.int .u32 z.tos, .int .u32 z.id, .bool z.df, .bool z.mf, .int .i64 z.off, .int .u32 z.ttl, .int .u32 z.proto, .int .u32 z.src, .int .u32 z.dst, .string tb] rfl rfl 34 _ (heap_alloc_new w2.drew _) refIpSize rfl (by simp [Value.oneCell']) rfl ?_
                  refine hK _ _ ?_
                  clear hK K
                  try simp only [Act.put]
                  refine wpAny_done (by kernel_rfl) ?_ _
                  go_wp2_with fail
                  go_meet
                  exact ⟨_, rfl, setRow_heap _ _ _ _ _ _ (heap_alloc_new w2.drew _), (setRow_other _ _ _ (Nat.ne_of_lt HNL.out)).trans (be_block (below_al (Below.refl _ _) _) (show w2.drew.heap[n]? = _ from HZ.out)), below_row (below_al (vbelow_dr HB.out) _) HB.out.size _⟩
                exact AllReady.nil
              exact AllReady.nil
            exact AllReady.nil
          refine AllReady.cons (o := ⟨some 6, _, _, _, _, _⟩) rfl (fun K hK => ?_) ?_
          · go_simp
            refine hK _ _ ?_
            clear hK K
            try simp only [Act.put, List.setIfInBounds_toArray, List.set_cons_zero, List.set_cons_succ]
            refine wpAny_ready (rs := [26]) (by kernel_rfl) (by simp) ?_
            refine AllReady.cons (o := ⟨some 73, _, _, _, _, _⟩) rfl (fun K hK => ?_) ?_
            · have hk := Lib.hid hK
              clear hK
              go_simp
              go_at_call 18
              refine (HN1216.out _).mono ?_
              rintro e wq ⟨rfl, rfl⟩
              dsimp only
              refine hk.out _ _ ?_
              clear hk K
              try simp only [Act.put, List.setIfInBounds_toArray, List.set_cons_zero, List.set_cons_succ]
              refine wpAny_ready (rs := [29]) (by kernel_rfl) (by simp) ?_
              refine AllReady.cons (o := ⟨some 76, _, _, _, _, _⟩) rfl (fun K hK => ?_) ?_
              · have hk := Lib.hid hK
                clear hK
                go_simp
                go_at_call 18
                refine (HN1620.out _).mono ?_
                rintro e wq ⟨rfl, rfl⟩
                dsimp only
                refine hk.out _ _ ?_
                clear hk K
                try simp only [Act.put, List.setIfInBounds_toArray, List.set_cons_zero, List.set_cons_succ]
                refine wpAny_take (i := 33) (oi := ⟨some 80, _, _, _, _, _⟩) (v := (.agg #[.int .u32 z.tos, .int .u32 z.id, .bool z.df, .bool z.mf, .int .i64 z.off, .int .u32 z.ttl, .int .u32 z.proto, .int .u32 z.src, .int .u32 z.dst, .string tb])) rfl (by kernel_rfl) (by kernel_rfl) (by kernel_rfl) (fun _ _ _ h => h) (Or.inl ⟨by rfl, ?_⟩) ?_
                · intro W
                  have hb := build_ip5 z tb W
                  simp only [execOp, List.map_toArray, List.map_cons, List.map_nil, Act.eval]
                  show Sem.run _ (do let x ← Instr.build 34 #[(0, .int .u32 z.tos), (1, .int .u32 z.id), (2, .bool z.df), (3, .bool z.mf), (4, .int .i64 z.off), (5, .int .u32 z.ttl), (6, .int .u32 z.proto), (7, .int .u32 z.src), (8, .int .u32 z.dst), (9, .string tb)]; pure (Next.value x)) W = _
                  rw [Sem.run_bind, hb]
                  rfl
                try simp only [Act.put, List.setIfInBounds_toArray, List.set_cons_zero, List.set_cons_succ]
                refine wpAny_ready (rs := [35]) (by kernel_rfl) (by simp) ?_
                refine AllReady.cons (o := ⟨none, _, _, _, _, _⟩) rfl (fun K hK => ?_) ?_
                · refine step_store_row rfl 34 (.tmp 6) (.tmp 80) rfl w2.heap.size #[.int .u32 z.tos, .int .u32 z.id, .bool z.df, .bool z.mf, .int .i64 z.off, .int .u32 z.ttl, .int .u32 z.proto, .int .u32 z.src, .int .u32 z.dst, .string tb] rfl rfl 34 _ (heap_alloc_new w2.drew _) refIpSize rfl (by simp [Value.oneCell']) rfl ?_
                  refine hK _ _ ?_
                  clear hK K
                  try simp only [Act.put]
                  refine wpAny_done (by kernel_rfl) ?_ _
                  go_wp2_with fail
                  go_meet
                  exact ⟨_, rfl, setRow_heap _ _ _ _ _ _ (heap_alloc_new w2.drew _), (setRow_other _ _ _ (Nat.ne_of_lt HNL.out)).trans (be_block (below_al (Below.refl _ _) _) (show w2.drew.heap[n]? = _ from HZ.out)), below_row (below_al (vbelow_dr HB.out) _) HB.out.size _⟩
                exact AllReady.nil
              exact AllReady.nil
            exact AllReady.nil
          exact AllReady.nil
        refine AllReady.cons (o := ⟨some 6, _, _, _, _, _⟩) rfl (fun K hK => ?_) ?_
        · go_simp
          refine hK _ _ ?_
          clear hK K
          try simp only [Act.put, List.setIfInBounds_toArray, List.set_cons_zero, List.set_cons_succ]
          refine wpAny_ready (rs := [5]) (by kernel_rfl) (by simp) ?_
          refine AllReady.cons (o := ⟨some 52, _, _, _, _, _⟩) rfl (fun K hK => ?_) ?_
          · have hk := Lib.hid hK
            clear hK
            go_simp
            go_at_call 18
            refine (HN46.out _).mono ?_
            rintro e wq ⟨rfl, rfl⟩
            dsimp only
            refine hk.out _ _ ?_
            clear hk K
            try simp only [Act.put, List.setIfInBounds_toArray, List.set_cons_zero, List.set_cons_succ]
            refine wpAny_ready (rs := [26]) (by kernel_rfl) (by simp) ?_
            refine AllReady.cons (o := ⟨some 73, _, _, _, _, _⟩) rfl (fun K hK => ?_) ?_
            · have hk := Lib.hid hK
              clear hK
              go_simp
              go_at_call 18
              refine (HN1216.out _).mono ?_
              rintro e wq ⟨rfl, rfl⟩
              dsimp only
              refine hk.out _ _ ?_
              clear hk K
              try simp only [Act.put, List.setIfInBounds_toArray, List.set_cons_zero, List.set_cons_succ]
              refine wpAny_ready (rs := [29]) (by kernel_rfl) (by simp) ?_
              refine AllReady.cons (o := ⟨some 76, _, _, _, _, _⟩) rfl (fun K hK => ?_) ?_
              · have hk := Lib.hid hK
                clear hK
                go_simp
                go_at_call 18
                refine (HN1620.out _).mono ?_
                rintro e wq ⟨rfl, rfl⟩
                dsimp only
                refine hk.out _ _ ?_
                clear hk K
                try simp only [Act.put, List.setIfInBounds_toArray, List.set_cons_zero, List.set_cons_succ]
                refine wpAny_take (i := 33) (oi := ⟨some 80, _, _, _, _, _⟩) (v := (.agg #[.int .u32 z.tos, .int .u32 z.id, .bool z.df, .bool z.mf, .int .i64 z.off, .int .u32 z.ttl, .int .u32 z.proto, .int .u32 z.src, .int .u32 z.dst, .string tb])) rfl (by kernel_rfl) (by kernel_rfl) (by kernel_rfl) (fun _ _ _ h => h) (Or.inl ⟨by rfl, ?_⟩) ?_
                · intro W
                  have hb := build_ip5 z tb W
                  simp only [execOp, List.map_toArray, List.map_cons, List.map_nil, Act.eval]
                  show Sem.run _ (do let x ← Instr.build 34 #[(0, .int .u32 z.tos), (1, .int .u32 z.id), (2, .bool z.df), (3, .bool z.mf), (4, .int .i64 z.off), (5, .int .u32 z.ttl), (6, .int .u32 z.proto), (7, .int .u32 z.src), (8, .int .u32 z.dst), (9, .string tb)]; pure (Next.value x)) W = _
                  rw [Sem.run_bind, hb]
                  rfl
                try simp only [Act.put, List.setIfInBounds_toArray, List.set_cons_zero, List.set_cons_succ]
                refine wpAny_ready (rs := [35]) (by kernel_rfl) (by simp) ?_
                refine AllReady.cons (o := ⟨none, _, _, _, _, _⟩) rfl (fun K hK => ?_) ?_
                · refine step_store_row rfl 34 (.tmp 6) (.tmp 80) rfl w2.heap.size #[.int .u32 z.tos, .int .u32 z.id, .bool z.df, .bool z.mf, .int .i64 z.off, .int .u32 z.ttl, .int .u32 z.proto, .int .u32 z.src, .int .u32 z.dst, .string tb] rfl rfl 34 _ (heap_alloc_new w2.drew _) refIpSize rfl (by simp [Value.oneCell']) rfl ?_
                  refine hK _ _ ?_
                  clear hK K
                  try simp only [Act.put]
                  refine wpAny_done (by kernel_rfl) ?_ _
                  go_wp2_with fail
                  go_meet
                  exact ⟨_, rfl, setRow_heap _ _ _ _ _ _ (heap_alloc_new w2.drew _), (setRow_other _ _ _ (Nat.ne_of_lt HNL.out)).trans (be_block (below_al (Below.refl _ _) _) (show w2.drew.heap[n]? = _ from HZ.out)), below_row (below_al (vbelow_dr HB.out) _) HB.out.size _⟩
                exact AllReady.nil
              exact AllReady.nil
            exact AllReady.nil
          exact AllReady.nil
        exact AllReady.nil
  case rest =>
    as_aux_lemma =>
      obtain ⟨g6, rfl, hg6, hz6, hb6⟩ := hcut
      generalize wc = w3 at *
      have HG6 := Lib.hid hg6
      have HZ6 := Lib.hid hz6
      have HB6 := Lib.hid hb6
      have XR := HRT.out w3
      (try rw [HTB.out] at XR)
      have HXR := Lib.hid XR
      clear hg6 hz6 hb6 XR HZ HB e1 e8 e9
      obtain ⟨k0, k1', k2', k3', k4', k5', k6', k7', k8', k9'⟩ := cells10 HG6.out
      go_wp2_with fail
      refine HXR.out.mono ?_
      rintro e w4 ⟨rfl, hl⟩
      have HZ := Lib.hid (be_block hl HZ6.out)
      have HG7 := Lib.hid (be_block hl HG6.out)
      have HB := Lib.hid (below_to HB6.out hl HB6.out.size)
      clear hl HXR HG6 HZ6 HB6 k0 k1' k2' k3' k4' k5' k6' k7' k8' k9'
      by_cases hB : 32768 ≤ B
      · have hB2 : decide (32768 ≤ B) = true := decide_eq_true hB
        generalize ipTxt z.bad = tt at *
        go_wp2_with (refine wpList_store_row rfl 34 (.tmp 2) (.tmp 89) rfl n #[.int .u32 0, .int .u32 0, .bool false, .bool false, .int .i64 0, .int .u32 0, .int .u32 0, .int .u32 0, .int .u32 0, .string ⟨#[]⟩] rfl rfl 34 _ HZ.out refIpSize rfl rfZ_one ?_)
        (try simp only [Exit.inBlock, Exit.then])
        refine bodyPost_ret (results_cell_tmp_row rfl _ _ n _ #[.int .u32 0, .int .u32 0, .bool false, .bool false, .int .i64 0, .int .u32 0, .int .u32 0, .int .u32 0, .int .u32 0, .string ⟨#[]⟩] (0, 0) _ rfl (setRow_heap _ _ _ _ _ _ HZ.out) Tryd.underlying34 rfl refIpSize) rfl ?_
        exact .inl ⟨.inl (by have := HBB.out; omega), rfl, below_row HB.out (by rw [HNN.out]; exact Nat.le_refl _) _⟩
      · have hB2 : decide (32768 ≤ B) = false := decide_eq_false hB
        by_cases hb : z.bad ≠ 0
        · have e0 := ipTxt_some hb
          have e1 : ((ipTxt z.bad).toList == []) = false := by rw [← empty_list]; exact e0
          generalize ipTxt z.bad = tt at *
          go_wp2_with (refine wpList_store_row rfl 34 (.tmp 2) (.tmp 89) rfl n #[.int .u32 0, .int .u32 0, .bool false, .bool false, .int .i64 0, .int .u32 0, .int .u32 0, .int .u32 0, .int .u32 0, .string ⟨#[]⟩] rfl rfl 34 _ HZ.out refIpSize rfl rfZ_one ?_)
          (try simp only [Exit.inBlock, Exit.then])
          refine bodyPost_ret (results_cell_tmp_row rfl _ _ n _ #[.int .u32 0, .int .u32 0, .bool false, .bool false, .int .i64 0, .int .u32 0, .int .u32 0, .int .u32 0, .int .u32 0, .string ⟨#[]⟩] (0, 0) _ rfl (setRow_heap _ _ _ _ _ _ HZ.out) Tryd.underlying34 rfl refIpSize) rfl ?_
          exact .inl ⟨.inr hb, rfl, below_row HB.out (by rw [HNN.out]; exact Nat.le_refl _) _⟩
        · have hb' : z.bad = 0 := Decidable.not_not.1 hb
          rw [hb']
          unfold ipTxt
          simp only [if_true]
          go_upto_region 21 with fail
          obtain ⟨k0, k1', k2', k3', k4', k5', k6', k7', k8', k9'⟩ := cells10 HG7.out
          go_wp2_with (refine wpList_store_row rfl 34 (.tmp 2) (.tmp 90) rfl n #[.int .u32 z.tos, .int .u32 z.id, .bool z.df, .bool z.mf, .int .i64 z.off, .int .u32 z.ttl, .int .u32 z.proto, .int .u32 z.src, .int .u32 z.dst, .string tb] rfl rfl 34 _ HZ.out refIpSize rfl (by simp [Value.oneCell']) ?_)
          (try simp only [Exit.inBlock, Exit.then])
          refine bodyPost_ret (results_cell_tmp_row rfl _ _ n _ #[.int .u32 z.tos, .int .u32 z.id, .bool z.df, .bool z.mf, .int .i64 z.off, .int .u32 z.ttl, .int .u32 z.proto, .int .u32 z.src, .int .u32 z.dst, .string tb] (0, 0) _ rfl (setRow_heap _ _ _ _ _ _ HZ.out) Tryd.underlying34 rfl refIpSize) rfl ?_
          exact .inr ⟨by have := HBB.out; omega, rfl, below_row HB.out (by rw [HNN.out]; exact Nat.le_refl _) _⟩
end Go.Proofs.YtbielhdmikcngaaDoor
