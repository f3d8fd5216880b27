/-
  What is proved: ipv4's parse by contract where head and sum are right: flags that no packet has, a packet that is not right, a packet; Parse.
  Conditions: the bytes are fewer than 2^40.
-/
import Derived.Test.YtdhndahoaobhpaaDoorVParse
namespace Go.Proofs.YtdhndahoaobhpaaDoor
open Go.RowKit

theorem cells10 {W : World} {G : Nat} {t : TypeId} {fr : Nat × Nat} {v0 v1 v2 v3 v4 v5 v6 v7 v8 v9 : Value} (h : W.heap[G]? = some (.cells #[v0, v1, v2, v3, v4, v5, v6, v7, v8, v9] t fr)) :
    W.cell? ⟨G, 0, none⟩ = some v0 ∧ W.cell? ⟨G, 1, none⟩ = some v1 ∧ W.cell? ⟨G, 2, none⟩ = some v2 ∧ W.cell? ⟨G, 3, none⟩ = some v3 ∧ W.cell? ⟨G, 4, none⟩ = some v4 ∧ W.cell? ⟨G, 5, none⟩ = some v5 ∧ W.cell? ⟨G, 6, none⟩ = some v6 ∧ W.cell? ⟨G, 7, none⟩ = some v7 ∧ W.cell? ⟨G, 8, none⟩ = some v8 ∧ W.cell? ⟨G, 9, none⟩ = some v9 := by
  refine ⟨?_, ?_, ?_, ?_, ?_, ?_, ?_, ?_, ?_, ?_⟩ <;> (rw [cell_of_row W G _ _ _ _ h]; rfl)
theorem cells14 {W : World} {G : Nat} {t : TypeId} {fr : Nat × Nat} {u0 u1 u2 u3 v0 v1 v2 v3 v4 v5 v6 v7 v8 v9 : Value} (h : W.heap[G]? = some (.cells #[u0, u1, u2, u3, v0, v1, v2, v3, v4, v5, v6, v7, v8, v9] t fr)) :
    W.cell? ⟨G, 2, none⟩ = some u2 ∧ W.cell? ⟨G, 3, none⟩ = some u3 ∧ W.cell? ⟨G, 4, none⟩ = some v0 ∧ W.cell? ⟨G, 5, none⟩ = some v1 ∧ W.cell? ⟨G, 6, none⟩ = some v2 ∧ W.cell? ⟨G, 7, none⟩ = some v3 ∧ W.cell? ⟨G, 8, none⟩ = some v4 ∧ W.cell? ⟨G, 9, none⟩ = some v5 ∧ W.cell? ⟨G, 10, none⟩ = some v6 ∧ W.cell? ⟨G, 11, none⟩ = some v7 ∧ W.cell? ⟨G, 12, none⟩ = some v8 ∧ W.cell? ⟨G, 13, none⟩ = some v9 := by
  refine ⟨?_, ?_, ?_, ?_, ?_, ?_, ?_, ?_, ?_, ?_, ?_, ?_⟩ <;> (rw [cell_of_row W G _ _ _ _ h]; rfl)
theorem set9_10 {W : World} {G : Nat} {t : TypeId} {v0 v1 v2 v3 v4 v5 v6 v7 v8 v9 : Value} (h : W.heap[G]? = some (.cells #[v0, v1, v2, v3, v4, v5, v6, v7, v8, v9] t)) (v : Value) :
    (W.setCell ⟨G, 9, none⟩ v).heap[G]? = some (.cells #[v0, v1, v2, v3, v4, v5, v6, v7, v8, v] t) := by
  rw [heap_set, h]
  rfl
theorem fr_block {q : Nat} {W W' : World} {G : Nat} {o : Obj} (hf : Fr (· = ⟨q, 0, none⟩) W W') (h : W.heap[G]? = some o) (hq : G ≠ q) : W'.heap[G]? = some o :=
  (hf.block G (Array.getElem?_eq_some_iff.1 h).1 (fun a ha => by subst ha; exact fun e => hq e.symm)).trans h
theorem be_block {W W' : World} {G : Nat} {o : Obj} (hb : Below W.heap.size W W') (h : W.heap[G]? = some o) : W'.heap[G]? = some o := (hb.block G (Array.getElem?_eq_some_iff.1 h).1).trans h
theorem set_block {W : World} {G g i : Nat} {o : Obj} (h : W.heap[G]? = some o) (hne : G ≠ g) (v : Value) : (W.setCell ⟨g, i, none⟩ v).heap[G]? = some o := (Below.heap_setCell _ _ _ _ hne).trans h
theorem free_lit {W : World} {G i : Nat} {cs : Array Value} {t : TypeId} (h : W.heap[G]? = some (.cells cs t)) : W.frozen? ⟨G, i, none⟩ = false := by
  simp [World.frozen?, h]
theorem wrong_zero {h : Hd} {n : Nat} (hw : h.wrong n = 0) : h.first / 16 = 4 ∧ h.first % 16 = 5 ∧ 20 ≤ h.size ∧ h.size ≤ n := by
  unfold Hd.wrong at hw
  split at hw
  · cases hw
  · split at hw
    · cases hw
    · split at hw
      · cases hw
      · split at hw
        · cases hw
        · split at hw
          · cases hw
          · omega
theorem and_top {n : Nat} (hn : n < 65536) : bits .and .u16 (n : Int) 32768 = ((n / 32768 % 2 * 32768 : Nat) : Int) := and_bit n 15 hn (by decide)

set_option maxRecDepth 100000 in
set_option maxHeartbeats 4000000 in
theorem parse_flag (h : Hd) (hh : h.In) (r : List UInt8) (v : Value) (w : World) (hr : Rd w v (h.bs ++ r)) (hL : (h.bs ++ r).length ≤ 1099511627776) (hw : h.wrong (h.bs ++ r).length = 0) (hc : ck h.bs = 0) (hq : 32768 ≤ h.bits) :
    Calls Tryd.prog 15 #[v] w (InErr 3 [] w) := by
  have HX := Lib.hid (IpAt.new w noIp (.slice none 0 0))
  have HB := Lib.hid (below_al (Below.refl w.heap.size w) noIpObj)
  have HR := Lib.hid (Read_facts v (h.bs ++ r) (w.alloc noIpObj) (hr.below (below_al (Below.refl _ _) _)) hL)
  rw [noIp_obj] at HX
  have HI := Lib.hid hh
  obtain ⟨_, _, hs1, hs2⟩ := wrong_zero hw
  obtain ⟨m, hm⟩ : ∃ m, h.size = 20 + m := ⟨h.size - 20, by omega⟩
  have hmr : m ≤ r.length := by rw [List.length_append, Hd.bs_len] at hs2; omega
  have hml : (r.take m).length = m := by rw [List.length_take]; omega
  have HMR : Hid (m ≤ r.length) := hmr
  have HRT : Hid (∀ (A : Option Addr) (c : Nat) (W : World), Calls Tryd.prog 9 #[.agg #[.int .u8 h.tos, .int .u16 h.id, .bool (decide (h.bits / 16384 % 2 = 1)), .bool (decide (h.bits / 8192 % 2 = 1)), .int .i64 (h.bits % 8192 * 8 : Nat), .int .u8 h.ttl, .int .u8 h.proto, .int .u32 h.src, .int .u32 h.dst, .slice A m c]] W (RightTold (h.ip (r.take m)) W)) := fun A c W => by
    have k := right_lit (h.ip (r.take m)) A c W (by show (r.take m).length ≤ _; rw [List.length_append] at hL; omega)
    rwa [show (h.ip (r.take m)).b.length = m from hml] at k
  have HVL : Hid (∀ b : Nat, (h.ip (r.take m)).val (.slice (some ⟨b, 0, none⟩) (h.ip (r.take m)).b.length (h.ip (r.take m)).b.length) = .agg #[.int .u8 h.tos, .int .u16 h.id, .bool (decide (h.bits / 16384 % 2 = 1)), .bool (decide (h.bits / 8192 % 2 = 1)), .int .i64 (h.bits % 8192 * 8 : Nat), .int .u8 h.ttl, .int .u8 h.proto, .int .u32 h.src, .int .u32 h.dst, .slice (some ⟨b, 0, none⟩) m m]) := fun b => by
    rw [show (h.ip (r.take m)).b.length = m from hml]
    rfl
  have HVB : Hid ((h.ip (r.take m)).b = r.take m) := rfl
  have HRH : Hid (∀ (b : Nat) (W : World), W.heap[b]? = some (bytesObj h.bs) → _) := fun b W hb => readHeader_any h hh (.slice (some ⟨b, 0, none⟩) 20 20) W (hd_rd hb)
  have HCK : Hid (∀ W : World, _) := fun W => check_any h hh (h.bs ++ r).length hL W
  have HLL := Lib.hid hL
  have HT : Hid ((h.bs ++ r).take 20 = h.bs) := by show _ = _; rw [List.take_append_of_le_length (by rw [Hd.bs_len]; exact Nat.le_refl _)]; exact List.take_of_length_le (by rw [Hd.bs_len]; exact Nat.le_refl _)
  have HD : Hid ((h.bs ++ r).drop 20 = r) := by show _ = _; exact List.drop_left' h.bs_len
  have HN : Hid (20 ≤ (h.bs ++ r).length) := by show _ ≤ _; rw [List.length_append, Hd.bs_len]; omega
  have hsz := hh.size
  have hbt := hh.bits
  obtain ⟨A, cap, rfl, _, _⟩ := hr
  have hmt : r.take (h.size - 20) = r.take m := by rw [hm, Nat.add_sub_cancel_left]
  rw [hw] at HCK
  have hcd : decide (ck h.bs = 0) = true := by simpa using hc
  have hmsub : (h.size : Int) - 20 = (m : Int) := by omega
  have hmb : (m : Int) < 65536 := by have := hh.size; omega
  clear hh hL hw hc hs1 hs2 hmr hml
  unfold Hd.row at HRH HCK
  obtain ⟨fz, hfz, hfb⟩ : ∃ fz, bits .and .u16 (h.bits : Int) 32768 = fz ∧ (fz != 0) = true := ⟨_, rfl, by
    rw [and_top hbt, show h.bits / 32768 % 2 = 1 by omega]
    rfl⟩
  clear hq
  clear hm
  generalize hp : h.ip (r.take m) = p at *
  generalize hx : h.first / 16 = x at HRH HCK
  generalize hy : h.first % 16 = y at HRH HCK
  generalize hdf : decide (h.bits / 16384 % 2 = 1) = df at HRH HCK HRT HVL
  generalize hmf : decide (h.bits / 8192 % 2 = 1) = mf at HRH HCK HRT HVL
  generalize hof : h.bits % 8192 * 8 = off at HRH HCK HRT HVL
  generalize hn : (h.bs ++ r).length = n at *
  have HNN := Lib.hid hn
  clear hx hy hn hdf hmf hof hp hmt
  clear hbt hsz
  generalize hW : w.alloc noIpObj = W at HX HB HR
  unfold noIpObj at hW
  go_enter Tryd.func15, Tryd.ntmps15
  go_upto_region 1 with fail
  clear hW
  go_wp2_with fail
  refine HR.out.mono ?_
  rintro e w1 ⟨q, rfl, h1, h2, h3⟩
  have R0 : Hid (Rs W w1 q (h.bs ++ r)) := ⟨h2, h3, h1, by rw [HNN.out]; exact HLL.out⟩
  clear h1 h2 h3 HR
  go_wp2_with fail
  refine (R0.out.bytesI 20 20 rfl (by rw [HNN.out]; exact HN.out)).mono ?_
  rintro e w2 ⟨b1, rfl, h1, h2, h3, h4⟩
  rw [HT.out] at h2
  rw [HD.out] at h3
  have HG : Hid (w.heap.size < W.heap.size) := HX.out.lt
  have HZ := Lib.hid (h4.ipAt (HX.out.below R0.out.old) (by have a := R0.out.new; have b := HG.out; omega))
  have R2 := Lib.hid h3
  have HB1 := Lib.hid h2
  have HQ1 : Hid (q ≠ b1) := by have a := R0.out.rdr.at_; show _ ≠ _; simp at a; omega
  clear h1 h2 h3 h4 R0 HX HT HD HN
  go_wp2_with fail
  refine (HRH.out b1 w2 HB1.out).mono ?_
  rintro e w3 ⟨rfl, hb⟩
  have HZ3 := Lib.hid (HZ.out.below hb)
  have R3 := Lib.hid (show Rs W w3 q r from ⟨R2.out.rdr.below hb, below_to R2.out.old hb R2.out.old.size, R2.out.new, R2.out.len⟩)
  have HB3 := Lib.hid ((hb.block b1 (Array.getElem?_eq_some_iff.1 HB1.out).1).trans HB1.out)
  clear hb HZ R2 HB1 HRH
  go_upto_region 6 with fail
  have HX4 := Lib.hid (heap_alloc_new w3 (.cells #[.int .u8 x, .int .u8 y, .int .i64 h.size, .int .u16 h.bits, .int .u8 h.tos, .int .u16 h.id, .bool df, .bool mf, .int .i64 off, .int .u8 h.ttl, .int .u8 h.proto, .int .u32 h.src, .int .u32 h.dst, .slice none 0 0] 70))
  have HK4 := Lib.hid (below_al (Below.refl w3.heap.size w3) (.cells #[.int .u8 x, .int .u8 y, .int .i64 h.size, .int .u16 h.bits, .int .u8 h.tos, .int .u16 h.id, .bool df, .bool mf, .int .i64 off, .int .u8 h.ttl, .int .u8 h.proto, .int .u32 h.src, .int .u32 h.dst, .slice none 0 0] 70))
  go_wp2_with fail
  refine (HCK.out _).mono ?_
  rintro e w4 ⟨hb, he⟩
  have hb4 := below_to HK4.out hb HK4.out.size
  have HZ4 := Lib.hid (HZ3.out.below hb4)
  have R4 := Lib.hid (show Rs W w4 q r from ⟨R3.out.rdr.below hb4, below_to R3.out.old hb4 R3.out.old.size, R3.out.new, R3.out.len⟩)
  have HB4 := Lib.hid ((hb4.block b1 (Array.getElem?_eq_some_iff.1 HB3.out).1).trans HB3.out)
  have H14 := Lib.hid ((hb.block w3.heap.size (by simp)).trans HX4.out)
  have HG7 : Hid (W.heap.size ≤ w3.heap.size ∧ q < w3.heap.size) := ⟨R3.out.old.size, R3.out.rdr.at_⟩
  clear hb hb4 HZ3 R3 HB3 HX4 HK4 HCK
  generalize w3.heap.size = g7 at *
  rw [if_pos rfl] at he
  subst he
  go_wp2_with fail
  refine (Valid_one rfl (hd_rd HB4.out) (by rw [Hd.bs_len]; decide)).mono ?_
  rintro e w5 ⟨rfl, rfl⟩
  rw [hcd]
  have hb5 := below_al (Below.refl w4.heap.size w4) (.cells #[.slice (some ⟨b1, 0, none⟩) 20 20] 24)
  have HZ5 := Lib.hid (HZ4.out.below hb5)
  have R5 := Lib.hid (show Rs W (w4.alloc (.cells #[.slice (some ⟨b1, 0, none⟩) 20 20] 24)) q r from ⟨R4.out.rdr.below hb5, below_to R4.out.old hb5 R4.out.old.size, R4.out.new, R4.out.len⟩)
  have H15 := Lib.hid (be_block hb5 H14.out)
  clear HZ4 R4 HB4 H14 hb5 hcd
  go_upto_region 11 with fail
  generalize w4.alloc (.cells #[.slice (some ⟨b1, 0, none⟩) 20 20] 24) = w5 at *
  obtain ⟨c2, c3, c4, c5, c6, c7, c8, c9, c10, c11, c12, c13⟩ := cells14 H15.out
  go_upto_region 12 with fail
  clear c2 c3 c4 c5 c6 c7 c8 c9 c10 c11 c12 c13
  have hb6 := below_al (Below.refl w5.heap.size w5) (.cells #[.int .u8 h.tos, .int .u16 h.id, .bool df, .bool mf, .int .i64 off, .int .u8 h.ttl, .int .u8 h.proto, .int .u32 h.src, .int .u32 h.dst, .slice none 0 0] 29)
  have HZ6 := Lib.hid (HZ5.out.below hb6)
  have R6 := Lib.hid (show Rs W _ q r from ⟨R5.out.rdr.below hb6, below_to R5.out.old hb6 R5.out.old.size, R5.out.new, R5.out.len⟩)
  have H16 := Lib.hid (be_block hb6 H15.out)
  have H9 := Lib.hid (heap_alloc_new w5 (.cells #[.int .u8 h.tos, .int .u16 h.id, .bool df, .bool mf, .int .i64 off, .int .u8 h.ttl, .int .u8 h.proto, .int .u32 h.src, .int .u32 h.dst, .slice none 0 0] 29))
  have HG9 : Hid (W.heap.size ≤ w5.heap.size ∧ q < w5.heap.size ∧ g7 < w5.heap.size) := ⟨R5.out.old.size, R5.out.rdr.at_, (Array.getElem?_eq_some_iff.1 H15.out).1⟩
  clear HZ5 R5 H15 hb6
  generalize hw6 : w5.alloc (.cells #[.int .u8 h.tos, .int .u16 h.id, .bool df, .bool mf, .int .i64 off, .int .u8 h.ttl, .int .u8 h.proto, .int .u32 h.src, .int .u32 h.dst, .slice none 0 0] 29) = w6 at *
  clear hw6
  generalize w5.heap.size = g9 at *
  have c2 := (cells14 H16.out).1
  go_wp2_with fail
  refine (R6.out.bytesI m _ rfl HMR.out).mono ?_
  rintro e w7 ⟨b2, rfl, k1, k2, k3, k4⟩
  have n1 : g9 ≠ q := by have a := HG9.out; omega
  have n2 : g7 ≠ q := by have a := HG7.out; omega
  have n3 : w.heap.size ≠ q := by have a := R6.out.new; have b := HG.out; omega
  have n4 : g9 < w6.heap.size := (Array.getElem?_eq_some_iff.1 H9.out).1
  have h9 := fr_block k4 H9.out n1
  have h16 := fr_block k4 H16.out n2
  have hz := k4.ipAt HZ6.out n3
  have d9 := (cells10 h9).2.2.2.2.2.2.2.2.2
  have f9 := free_lit (i := 9) h9
  have HW7 := Lib.hid k3.old
  have H9 := Lib.hid h9
  have H16 := Lib.hid h16
  have HZ7 := Lib.hid hz
  have HB2 := Lib.hid k2
  have HGB : Hid (g9 < b2 ∧ W.heap.size ≤ g9 ∧ g7 < g9 ∧ w.heap.size < g9) := by
    have a := HG9.out
    have b := HG.out
    show _ ∧ _
    omega
  clear c2 R6 HZ6 k1 k2 k3 k4 n1 n2 n3 n4 h9 h16 hz
  go_upto_region 13 with fail
  clear d9 f9
  have HX9 := Lib.hid (set9_10 H9.out (.slice (some ⟨b2, 0, none⟩) m m))
  have HX16 := Lib.hid (set_block (i := 9) H16.out (show g7 ≠ g9 by have a := HGB.out; omega) (.slice (some ⟨b2, 0, none⟩) m m))
  have HX2 := Lib.hid (set_block (i := 9) HB2.out (show b2 ≠ g9 by have a := HGB.out; omega) (.slice (some ⟨b2, 0, none⟩) m m))
  have HXZ : Hid (IpAt _ w.heap.size noIp (.slice none 0 0)) := set_block (i := 9) HZ7.out (show w.heap.size ≠ g9 by have a := HGB.out; omega) (.slice (some ⟨b2, 0, none⟩) m m)
  have HXW := Lib.hid (HW7.out.setCell (p := ⟨g9, 9, none⟩) HGB.out.2.1 (.slice (some ⟨b2, 0, none⟩) m m))
  clear H9 H16 HB2 HZ7 HW7
  generalize w7.setCell ⟨g9, 9, none⟩ (.slice (some ⟨b2, 0, none⟩) m m) = w8 at *
  go_upto_region 15 with fail
  have c3 := (cells14 HX16.out).2.1
  have HZ := HXZ
  have HQ := Lib.hid (below_to HB.out HXW.out HB.out.size)
  clear HXZ HXW HX9 HX16 HX2 HB
  go_wp2_with (refine wpList_store_row rfl 29 (.tmp 2) (.tmp 61) rfl w.heap.size noIpRow rfl rfl 29 _ HZ.out ipSize rfl noIpRow_one ?_)
  (try simp only [Exit.inBlock, Exit.then])
  refine bodyPost_ret (results_cell_tmp_row rfl _ _ w.heap.size _ noIpRow (0, 0) _ rfl (setRow_heap _ _ _ _ _ _ HZ.out) Tryd.underlying29 rfl ipSize) rfl ?_
  exact ⟨_, _, rfl, rfl, ((Fr.of_below (p := fun _ => False) HQ.out).row (Nat.le_refl _) _).below (Nat.le_refl _) (fun _ h => h.elim)⟩

set_option maxRecDepth 100000 in
set_option maxHeartbeats 4000000 in
theorem parse_right (h : Hd) (hh : h.In) (r : List UInt8) (v : Value) (w : World) (hr : Rd w v (h.bs ++ r)) (hL : (h.bs ++ r).length ≤ 1099511627776) (hw : h.wrong (h.bs ++ r).length = 0) (hc : ck h.bs = 0) (hq : h.bits < 32768) (hb : (h.ip (r.take (h.size - 20))).bad ≠ 0) :
    Calls Tryd.prog 15 #[v] w (InErr 3 [] w) := by
  have HX := Lib.hid (IpAt.new w noIp (.slice none 0 0))
  have HB := Lib.hid (below_al (Below.refl w.heap.size w) noIpObj)
  have HR := Lib.hid (Read_facts v (h.bs ++ r) (w.alloc noIpObj) (hr.below (below_al (Below.refl _ _) _)) hL)
  rw [noIp_obj] at HX
  have HI := Lib.hid hh
  obtain ⟨_, _, hs1, hs2⟩ := wrong_zero hw
  obtain ⟨m, hm⟩ : ∃ m, h.size = 20 + m := ⟨h.size - 20, by omega⟩
  have hmr : m ≤ r.length := by rw [List.length_append, Hd.bs_len] at hs2; omega
  have hml : (r.take m).length = m := by rw [List.length_take]; omega
  have HMR : Hid (m ≤ r.length) := hmr
  have HRT : Hid (∀ (A : Option Addr) (c : Nat) (W : World), Calls Tryd.prog 9 #[.agg #[.int .u8 h.tos, .int .u16 h.id, .bool (decide (h.bits / 16384 % 2 = 1)), .bool (decide (h.bits / 8192 % 2 = 1)), .int .i64 (h.bits % 8192 * 8 : Nat), .int .u8 h.ttl, .int .u8 h.proto, .int .u32 h.src, .int .u32 h.dst, .slice A m c]] W (RightTold (h.ip (r.take m)) W)) := fun A c W => by
    have k := right_lit (h.ip (r.take m)) A c W (by show (r.take m).length ≤ _; rw [List.length_append] at hL; omega)
    rwa [show (h.ip (r.take m)).b.length = m from hml] at k
  have HVL : Hid (∀ b : Nat, (h.ip (r.take m)).val (.slice (some ⟨b, 0, none⟩) (h.ip (r.take m)).b.length (h.ip (r.take m)).b.length) = .agg #[.int .u8 h.tos, .int .u16 h.id, .bool (decide (h.bits / 16384 % 2 = 1)), .bool (decide (h.bits / 8192 % 2 = 1)), .int .i64 (h.bits % 8192 * 8 : Nat), .int .u8 h.ttl, .int .u8 h.proto, .int .u32 h.src, .int .u32 h.dst, .slice (some ⟨b, 0, none⟩) m m]) := fun b => by
    rw [show (h.ip (r.take m)).b.length = m from hml]
    rfl
  have HVB : Hid ((h.ip (r.take m)).b = r.take m) := rfl
  have HRH : Hid (∀ (b : Nat) (W : World), W.heap[b]? = some (bytesObj h.bs) → _) := fun b W hb => readHeader_any h hh (.slice (some ⟨b, 0, none⟩) 20 20) W (hd_rd hb)
  have HCK : Hid (∀ W : World, _) := fun W => check_any h hh (h.bs ++ r).length hL W
  have HLL := Lib.hid hL
  have HT : Hid ((h.bs ++ r).take 20 = h.bs) := by show _ = _; rw [List.take_append_of_le_length (by rw [Hd.bs_len]; exact Nat.le_refl _)]; exact List.take_of_length_le (by rw [Hd.bs_len]; exact Nat.le_refl _)
  have HD : Hid ((h.bs ++ r).drop 20 = r) := by show _ = _; exact List.drop_left' h.bs_len
  have HN : Hid (20 ≤ (h.bs ++ r).length) := by show _ ≤ _; rw [List.length_append, Hd.bs_len]; omega
  have hsz := hh.size
  have hbt := hh.bits
  obtain ⟨A, cap, rfl, _, _⟩ := hr
  have hmt : r.take (h.size - 20) = r.take m := by rw [hm, Nat.add_sub_cancel_left]
  rw [hw] at HCK
  have hcd : decide (ck h.bs = 0) = true := by simpa using hc
  have hmsub : (h.size : Int) - 20 = (m : Int) := by omega
  have hmb : (m : Int) < 65536 := by have := hh.size; omega
  clear hh hL hw hc hs1 hs2 hmr hml
  unfold Hd.row at HRH HCK
  have hof0 : bits .and .u16 (h.bits : Int) 32768 = 0 := by
    rw [and_top hbt, show h.bits / 32768 % 2 = 0 by omega]
    rfl
  clear hq
  rw [hmt] at hb
  clear hm
  generalize hp : h.ip (r.take m) = p at *
  generalize hx : h.first / 16 = x at HRH HCK
  generalize hy : h.first % 16 = y at HRH HCK
  generalize hdf : decide (h.bits / 16384 % 2 = 1) = df at HRH HCK HRT HVL
  generalize hmf : decide (h.bits / 8192 % 2 = 1) = mf at HRH HCK HRT HVL
  generalize hof : h.bits % 8192 * 8 = off at HRH HCK HRT HVL
  generalize hn : (h.bs ++ r).length = n at *
  have HNN := Lib.hid hn
  clear hx hy hn hdf hmf hof hp hmt
  have HBD := Lib.hid hb
  clear hbt hsz hb
  generalize hW : w.alloc noIpObj = W at HX HB HR
  unfold noIpObj at hW
  go_enter Tryd.func15, Tryd.ntmps15
  go_upto_region 1 with fail
  clear hW
  go_wp2_with fail
  refine HR.out.mono ?_
  rintro e w1 ⟨q, rfl, h1, h2, h3⟩
  have R0 : Hid (Rs W w1 q (h.bs ++ r)) := ⟨h2, h3, h1, by rw [HNN.out]; exact HLL.out⟩
  clear h1 h2 h3 HR
  go_wp2_with fail
  refine (R0.out.bytesI 20 20 rfl (by rw [HNN.out]; exact HN.out)).mono ?_
  rintro e w2 ⟨b1, rfl, h1, h2, h3, h4⟩
  rw [HT.out] at h2
  rw [HD.out] at h3
  have HG : Hid (w.heap.size < W.heap.size) := HX.out.lt
  have HZ := Lib.hid (h4.ipAt (HX.out.below R0.out.old) (by have a := R0.out.new; have b := HG.out; omega))
  have R2 := Lib.hid h3
  have HB1 := Lib.hid h2
  have HQ1 : Hid (q ≠ b1) := by have a := R0.out.rdr.at_; show _ ≠ _; simp at a; omega
  clear h1 h2 h3 h4 R0 HX HT HD HN
  go_wp2_with fail
  refine (HRH.out b1 w2 HB1.out).mono ?_
  rintro e w3 ⟨rfl, hb⟩
  have HZ3 := Lib.hid (HZ.out.below hb)
  have R3 := Lib.hid (show Rs W w3 q r from ⟨R2.out.rdr.below hb, below_to R2.out.old hb R2.out.old.size, R2.out.new, R2.out.len⟩)
  have HB3 := Lib.hid ((hb.block b1 (Array.getElem?_eq_some_iff.1 HB1.out).1).trans HB1.out)
  clear hb HZ R2 HB1 HRH
  go_upto_region 6 with fail
  have HX4 := Lib.hid (heap_alloc_new w3 (.cells #[.int .u8 x, .int .u8 y, .int .i64 h.size, .int .u16 h.bits, .int .u8 h.tos, .int .u16 h.id, .bool df, .bool mf, .int .i64 off, .int .u8 h.ttl, .int .u8 h.proto, .int .u32 h.src, .int .u32 h.dst, .slice none 0 0] 70))
  have HK4 := Lib.hid (below_al (Below.refl w3.heap.size w3) (.cells #[.int .u8 x, .int .u8 y, .int .i64 h.size, .int .u16 h.bits, .int .u8 h.tos, .int .u16 h.id, .bool df, .bool mf, .int .i64 off, .int .u8 h.ttl, .int .u8 h.proto, .int .u32 h.src, .int .u32 h.dst, .slice none 0 0] 70))
  go_wp2_with fail
  refine (HCK.out _).mono ?_
  rintro e w4 ⟨hb, he⟩
  have hb4 := below_to HK4.out hb HK4.out.size
  have HZ4 := Lib.hid (HZ3.out.below hb4)
  have R4 := Lib.hid (show Rs W w4 q r from ⟨R3.out.rdr.below hb4, below_to R3.out.old hb4 R3.out.old.size, R3.out.new, R3.out.len⟩)
  have HB4 := Lib.hid ((hb4.block b1 (Array.getElem?_eq_some_iff.1 HB3.out).1).trans HB3.out)
  have H14 := Lib.hid ((hb.block w3.heap.size (by simp)).trans HX4.out)
  have HG7 : Hid (W.heap.size ≤ w3.heap.size ∧ q < w3.heap.size) := ⟨R3.out.old.size, R3.out.rdr.at_⟩
  clear hb hb4 HZ3 R3 HB3 HX4 HK4 HCK
  generalize w3.heap.size = g7 at *
  rw [if_pos rfl] at he
  subst he
  go_wp2_with fail
  refine (Valid_one rfl (hd_rd HB4.out) (by rw [Hd.bs_len]; decide)).mono ?_
  rintro e w5 ⟨rfl, rfl⟩
  rw [hcd]
  have hb5 := below_al (Below.refl w4.heap.size w4) (.cells #[.slice (some ⟨b1, 0, none⟩) 20 20] 24)
  have HZ5 := Lib.hid (HZ4.out.below hb5)
  have R5 := Lib.hid (show Rs W (w4.alloc (.cells #[.slice (some ⟨b1, 0, none⟩) 20 20] 24)) q r from ⟨R4.out.rdr.below hb5, below_to R4.out.old hb5 R4.out.old.size, R4.out.new, R4.out.len⟩)
  have H15 := Lib.hid (be_block hb5 H14.out)
  clear HZ4 R4 HB4 H14 hb5 hcd
  go_upto_region 11 with fail
  generalize w4.alloc (.cells #[.slice (some ⟨b1, 0, none⟩) 20 20] 24) = w5 at *
  obtain ⟨c2, c3, c4, c5, c6, c7, c8, c9, c10, c11, c12, c13⟩ := cells14 H15.out
  go_upto_region 12 with fail
  clear c2 c3 c4 c5 c6 c7 c8 c9 c10 c11 c12 c13
  have hb6 := below_al (Below.refl w5.heap.size w5) (.cells #[.int .u8 h.tos, .int .u16 h.id, .bool df, .bool mf, .int .i64 off, .int .u8 h.ttl, .int .u8 h.proto, .int .u32 h.src, .int .u32 h.dst, .slice none 0 0] 29)
  have HZ6 := Lib.hid (HZ5.out.below hb6)
  have R6 := Lib.hid (show Rs W _ q r from ⟨R5.out.rdr.below hb6, below_to R5.out.old hb6 R5.out.old.size, R5.out.new, R5.out.len⟩)
  have H16 := Lib.hid (be_block hb6 H15.out)
  have H9 := Lib.hid (heap_alloc_new w5 (.cells #[.int .u8 h.tos, .int .u16 h.id, .bool df, .bool mf, .int .i64 off, .int .u8 h.ttl, .int .u8 h.proto, .int .u32 h.src, .int .u32 h.dst, .slice none 0 0] 29))
  have HG9 : Hid (W.heap.size ≤ w5.heap.size ∧ q < w5.heap.size ∧ g7 < w5.heap.size) := ⟨R5.out.old.size, R5.out.rdr.at_, (Array.getElem?_eq_some_iff.1 H15.out).1⟩
  clear HZ5 R5 H15 hb6
  generalize hw6 : w5.alloc (.cells #[.int .u8 h.tos, .int .u16 h.id, .bool df, .bool mf, .int .i64 off, .int .u8 h.ttl, .int .u8 h.proto, .int .u32 h.src, .int .u32 h.dst, .slice none 0 0] 29) = w6 at *
  clear hw6
  generalize w5.heap.size = g9 at *
  have c2 := (cells14 H16.out).1
  go_wp2_with fail
  refine (R6.out.bytesI m _ rfl HMR.out).mono ?_
  rintro e w7 ⟨b2, rfl, k1, k2, k3, k4⟩
  have n1 : g9 ≠ q := by have a := HG9.out; omega
  have n2 : g7 ≠ q := by have a := HG7.out; omega
  have n3 : w.heap.size ≠ q := by have a := R6.out.new; have b := HG.out; omega
  have n4 : g9 < w6.heap.size := (Array.getElem?_eq_some_iff.1 H9.out).1
  have h9 := fr_block k4 H9.out n1
  have h16 := fr_block k4 H16.out n2
  have hz := k4.ipAt HZ6.out n3
  have d9 := (cells10 h9).2.2.2.2.2.2.2.2.2
  have f9 := free_lit (i := 9) h9
  have HW7 := Lib.hid k3.old
  have H9 := Lib.hid h9
  have H16 := Lib.hid h16
  have HZ7 := Lib.hid hz
  have HB2 := Lib.hid k2
  have HGB : Hid (g9 < b2 ∧ W.heap.size ≤ g9 ∧ g7 < g9 ∧ w.heap.size < g9) := by
    have a := HG9.out
    have b := HG.out
    show _ ∧ _
    omega
  clear c2 R6 HZ6 k1 k2 k3 k4 n1 n2 n3 n4 h9 h16 hz
  go_upto_region 13 with fail
  clear d9 f9
  have HX9 := Lib.hid (set9_10 H9.out (.slice (some ⟨b2, 0, none⟩) m m))
  have HX16 := Lib.hid (set_block (i := 9) H16.out (show g7 ≠ g9 by have a := HGB.out; omega) (.slice (some ⟨b2, 0, none⟩) m m))
  have HX2 := Lib.hid (set_block (i := 9) HB2.out (show b2 ≠ g9 by have a := HGB.out; omega) (.slice (some ⟨b2, 0, none⟩) m m))
  have HXZ : Hid (IpAt _ w.heap.size noIp (.slice none 0 0)) := set_block (i := 9) HZ7.out (show w.heap.size ≠ g9 by have a := HGB.out; omega) (.slice (some ⟨b2, 0, none⟩) m m)
  have HXW := Lib.hid (HW7.out.setCell (p := ⟨g9, 9, none⟩) HGB.out.2.1 (.slice (some ⟨b2, 0, none⟩) m m))
  clear H9 H16 HB2 HZ7 HW7
  generalize w7.setCell ⟨g9, 9, none⟩ (.slice (some ⟨b2, 0, none⟩) m m) = w8 at *
  go_upto_region 15 with fail
  have c3 := (cells14 HX16.out).2.1
  obtain ⟨d0, d1, d2, d3, d4, d5, d6, d7, d8, d9⟩ := cells10 HX9.out
  go_wp2_with fail
  refine (HRT.out _ _ _).mono ?_
  rintro e w9 ht
  obtain ⟨b9, rfl, _, hb9⟩ := ht.bad HBD.out
  clear ht c3 d0 d1 d2 d3 d4 d5 d6 d7 d8 d9
  have HZ := Lib.hid (HXZ.out.below hb9)
  have HQ := Lib.hid (below_to HB.out (below_to HXW.out hb9 HXW.out.size) HB.out.size)
  clear HXZ HXW HX9 HX16 HX2 HB hb9
  go_wp2_with (refine wpList_store_row rfl 29 (.tmp 2) (.tmp 61) rfl w.heap.size noIpRow rfl rfl 29 _ HZ.out ipSize rfl noIpRow_one ?_)
  (try simp only [Exit.inBlock, Exit.then])
  refine bodyPost_ret (results_cell_tmp_row rfl _ _ w.heap.size _ noIpRow (0, 0) _ rfl (setRow_heap _ _ _ _ _ _ HZ.out) Tryd.underlying29 rfl ipSize) rfl ?_
  exact ⟨_, _, rfl, rfl, ((Fr.of_below (p := fun _ => False) HQ.out).row (Nat.le_refl _) _).below (Nat.le_refl _) (fun _ h => h.elim)⟩

set_option maxRecDepth 100000 in
set_option maxHeartbeats 4000000 in
theorem parse_ok (h : Hd) (hh : h.In) (r : List UInt8) (v : Value) (w : World) (hr : Rd w v (h.bs ++ r)) (hL : (h.bs ++ r).length ≤ 1099511627776) (hw : h.wrong (h.bs ++ r).length = 0) (hc : ck h.bs = 0) (hq : h.bits < 32768) (hb : (h.ip (r.take (h.size - 20))).bad = 0) :
    Calls Tryd.prog 15 #[v] w (InOk (h.ip (r.take (h.size - 20))) w) := by
  have HX := Lib.hid (IpAt.new w noIp (.slice none 0 0))
  have HB := Lib.hid (below_al (Below.refl w.heap.size w) noIpObj)
  have HR := Lib.hid (Read_facts v (h.bs ++ r) (w.alloc noIpObj) (hr.below (below_al (Below.refl _ _) _)) hL)
  rw [noIp_obj] at HX
  have HI := Lib.hid hh
  obtain ⟨_, _, hs1, hs2⟩ := wrong_zero hw
  obtain ⟨m, hm⟩ : ∃ m, h.size = 20 + m := ⟨h.size - 20, by omega⟩
  have hmr : m ≤ r.length := by rw [List.length_append, Hd.bs_len] at hs2; omega
  have hml : (r.take m).length = m := by rw [List.length_take]; omega
  have HMR : Hid (m ≤ r.length) := hmr
  have HRT : Hid (∀ (A : Option Addr) (c : Nat) (W : World), Calls Tryd.prog 9 #[.agg #[.int .u8 h.tos, .int .u16 h.id, .bool (decide (h.bits / 16384 % 2 = 1)), .bool (decide (h.bits / 8192 % 2 = 1)), .int .i64 (h.bits % 8192 * 8 : Nat), .int .u8 h.ttl, .int .u8 h.proto, .int .u32 h.src, .int .u32 h.dst, .slice A m c]] W (RightTold (h.ip (r.take m)) W)) := fun A c W => by
    have k := right_lit (h.ip (r.take m)) A c W (by show (r.take m).length ≤ _; rw [List.length_append] at hL; omega)
    rwa [show (h.ip (r.take m)).b.length = m from hml] at k
  have HVL : Hid (∀ b : Nat, (h.ip (r.take m)).val (.slice (some ⟨b, 0, none⟩) (h.ip (r.take m)).b.length (h.ip (r.take m)).b.length) = .agg #[.int .u8 h.tos, .int .u16 h.id, .bool (decide (h.bits / 16384 % 2 = 1)), .bool (decide (h.bits / 8192 % 2 = 1)), .int .i64 (h.bits % 8192 * 8 : Nat), .int .u8 h.ttl, .int .u8 h.proto, .int .u32 h.src, .int .u32 h.dst, .slice (some ⟨b, 0, none⟩) m m]) := fun b => by
    rw [show (h.ip (r.take m)).b.length = m from hml]
    rfl
  have HVB : Hid ((h.ip (r.take m)).b = r.take m) := rfl
  have HRH : Hid (∀ (b : Nat) (W : World), W.heap[b]? = some (bytesObj h.bs) → _) := fun b W hb => readHeader_any h hh (.slice (some ⟨b, 0, none⟩) 20 20) W (hd_rd hb)
  have HCK : Hid (∀ W : World, _) := fun W => check_any h hh (h.bs ++ r).length hL W
  have HLL := Lib.hid hL
  have HT : Hid ((h.bs ++ r).take 20 = h.bs) := by show _ = _; rw [List.take_append_of_le_length (by rw [Hd.bs_len]; exact Nat.le_refl _)]; exact List.take_of_length_le (by rw [Hd.bs_len]; exact Nat.le_refl _)
  have HD : Hid ((h.bs ++ r).drop 20 = r) := by show _ = _; exact List.drop_left' h.bs_len
  have HN : Hid (20 ≤ (h.bs ++ r).length) := by show _ ≤ _; rw [List.length_append, Hd.bs_len]; omega
  have hsz := hh.size
  have hbt := hh.bits
  obtain ⟨A, cap, rfl, _, _⟩ := hr
  have hmt : r.take (h.size - 20) = r.take m := by rw [hm, Nat.add_sub_cancel_left]
  rw [hw] at HCK
  have hcd : decide (ck h.bs = 0) = true := by simpa using hc
  have hmsub : (h.size : Int) - 20 = (m : Int) := by omega
  have hmb : (m : Int) < 65536 := by have := hh.size; omega
  clear hh hL hw hc hs1 hs2 hmr hml
  unfold Hd.row at HRH HCK
  have hof0 : bits .and .u16 (h.bits : Int) 32768 = 0 := by
    rw [and_top hbt, show h.bits / 32768 % 2 = 0 by omega]
    rfl
  clear hq
  rw [hmt] at hb ⊢
  clear hm
  generalize hp : h.ip (r.take m) = p at *
  generalize hx : h.first / 16 = x at HRH HCK
  generalize hy : h.first % 16 = y at HRH HCK
  generalize hdf : decide (h.bits / 16384 % 2 = 1) = df at HRH HCK HRT HVL
  generalize hmf : decide (h.bits / 8192 % 2 = 1) = mf at HRH HCK HRT HVL
  generalize hof : h.bits % 8192 * 8 = off at HRH HCK HRT HVL
  generalize hn : (h.bs ++ r).length = n at *
  have HNN := Lib.hid hn
  clear hx hy hn hdf hmf hof hp hmt
  have HBD := Lib.hid hb
  clear hbt hsz hb
  generalize hW : w.alloc noIpObj = W at HX HB HR
  unfold noIpObj at hW
  go_enter Tryd.func15, Tryd.ntmps15
  go_upto_region 1 with fail
  clear hW
  go_wp2_with fail
  refine HR.out.mono ?_
  rintro e w1 ⟨q, rfl, h1, h2, h3⟩
  have R0 : Hid (Rs W w1 q (h.bs ++ r)) := ⟨h2, h3, h1, by rw [HNN.out]; exact HLL.out⟩
  clear h1 h2 h3 HR
  go_wp2_with fail
  refine (R0.out.bytesI 20 20 rfl (by rw [HNN.out]; exact HN.out)).mono ?_
  rintro e w2 ⟨b1, rfl, h1, h2, h3, h4⟩
  rw [HT.out] at h2
  rw [HD.out] at h3
  have HG : Hid (w.heap.size < W.heap.size) := HX.out.lt
  have HZ := Lib.hid (h4.ipAt (HX.out.below R0.out.old) (by have a := R0.out.new; have b := HG.out; omega))
  have R2 := Lib.hid h3
  have HB1 := Lib.hid h2
  have HQ1 : Hid (q ≠ b1) := by have a := R0.out.rdr.at_; show _ ≠ _; simp at a; omega
  clear h1 h2 h3 h4 R0 HX HT HD HN
  go_wp2_with fail
  refine (HRH.out b1 w2 HB1.out).mono ?_
  rintro e w3 ⟨rfl, hb⟩
  have HZ3 := Lib.hid (HZ.out.below hb)
  have R3 := Lib.hid (show Rs W w3 q r from ⟨R2.out.rdr.below hb, below_to R2.out.old hb R2.out.old.size, R2.out.new, R2.out.len⟩)
  have HB3 := Lib.hid ((hb.block b1 (Array.getElem?_eq_some_iff.1 HB1.out).1).trans HB1.out)
  clear hb HZ R2 HB1 HRH
  go_upto_region 6 with fail
  have HX4 := Lib.hid (heap_alloc_new w3 (.cells #[.int .u8 x, .int .u8 y, .int .i64 h.size, .int .u16 h.bits, .int .u8 h.tos, .int .u16 h.id, .bool df, .bool mf, .int .i64 off, .int .u8 h.ttl, .int .u8 h.proto, .int .u32 h.src, .int .u32 h.dst, .slice none 0 0] 70))
  have HK4 := Lib.hid (below_al (Below.refl w3.heap.size w3) (.cells #[.int .u8 x, .int .u8 y, .int .i64 h.size, .int .u16 h.bits, .int .u8 h.tos, .int .u16 h.id, .bool df, .bool mf, .int .i64 off, .int .u8 h.ttl, .int .u8 h.proto, .int .u32 h.src, .int .u32 h.dst, .slice none 0 0] 70))
  go_wp2_with fail
  refine (HCK.out _).mono ?_
  rintro e w4 ⟨hb, he⟩
  have hb4 := below_to HK4.out hb HK4.out.size
  have HZ4 := Lib.hid (HZ3.out.below hb4)
  have R4 := Lib.hid (show Rs W w4 q r from ⟨R3.out.rdr.below hb4, below_to R3.out.old hb4 R3.out.old.size, R3.out.new, R3.out.len⟩)
  have HB4 := Lib.hid ((hb4.block b1 (Array.getElem?_eq_some_iff.1 HB3.out).1).trans HB3.out)
  have H14 := Lib.hid ((hb.block w3.heap.size (by simp)).trans HX4.out)
  have HG7 : Hid (W.heap.size ≤ w3.heap.size ∧ q < w3.heap.size) := ⟨R3.out.old.size, R3.out.rdr.at_⟩
  clear hb hb4 HZ3 R3 HB3 HX4 HK4 HCK
  generalize w3.heap.size = g7 at *
  rw [if_pos rfl] at he
  subst he
  go_wp2_with fail
  refine (Valid_one rfl (hd_rd HB4.out) (by rw [Hd.bs_len]; decide)).mono ?_
  rintro e w5 ⟨rfl, rfl⟩
  rw [hcd]
  have hb5 := below_al (Below.refl w4.heap.size w4) (.cells #[.slice (some ⟨b1, 0, none⟩) 20 20] 24)
  have HZ5 := Lib.hid (HZ4.out.below hb5)
  have R5 := Lib.hid (show Rs W (w4.alloc (.cells #[.slice (some ⟨b1, 0, none⟩) 20 20] 24)) q r from ⟨R4.out.rdr.below hb5, below_to R4.out.old hb5 R4.out.old.size, R4.out.new, R4.out.len⟩)
  have H15 := Lib.hid (be_block hb5 H14.out)
  clear HZ4 R4 HB4 H14 hb5 hcd
  go_upto_region 11 with fail
  generalize w4.alloc (.cells #[.slice (some ⟨b1, 0, none⟩) 20 20] 24) = w5 at *
  obtain ⟨c2, c3, c4, c5, c6, c7, c8, c9, c10, c11, c12, c13⟩ := cells14 H15.out
  go_upto_region 12 with fail
  clear c2 c3 c4 c5 c6 c7 c8 c9 c10 c11 c12 c13
  have hb6 := below_al (Below.refl w5.heap.size w5) (.cells #[.int .u8 h.tos, .int .u16 h.id, .bool df, .bool mf, .int .i64 off, .int .u8 h.ttl, .int .u8 h.proto, .int .u32 h.src, .int .u32 h.dst, .slice none 0 0] 29)
  have HZ6 := Lib.hid (HZ5.out.below hb6)
  have R6 := Lib.hid (show Rs W _ q r from ⟨R5.out.rdr.below hb6, below_to R5.out.old hb6 R5.out.old.size, R5.out.new, R5.out.len⟩)
  have H16 := Lib.hid (be_block hb6 H15.out)
  have H9 := Lib.hid (heap_alloc_new w5 (.cells #[.int .u8 h.tos, .int .u16 h.id, .bool df, .bool mf, .int .i64 off, .int .u8 h.ttl, .int .u8 h.proto, .int .u32 h.src, .int .u32 h.dst, .slice none 0 0] 29))
  have HG9 : Hid (W.heap.size ≤ w5.heap.size ∧ q < w5.heap.size ∧ g7 < w5.heap.size) := ⟨R5.out.old.size, R5.out.rdr.at_, (Array.getElem?_eq_some_iff.1 H15.out).1⟩
  clear HZ5 R5 H15 hb6
  generalize hw6 : w5.alloc (.cells #[.int .u8 h.tos, .int .u16 h.id, .bool df, .bool mf, .int .i64 off, .int .u8 h.ttl, .int .u8 h.proto, .int .u32 h.src, .int .u32 h.dst, .slice none 0 0] 29) = w6 at *
  clear hw6
  generalize w5.heap.size = g9 at *
  have c2 := (cells14 H16.out).1
  go_wp2_with fail
  refine (R6.out.bytesI m _ rfl HMR.out).mono ?_
  rintro e w7 ⟨b2, rfl, k1, k2, k3, k4⟩
  have n1 : g9 ≠ q := by have a := HG9.out; omega
  have n2 : g7 ≠ q := by have a := HG7.out; omega
  have n3 : w.heap.size ≠ q := by have a := R6.out.new; have b := HG.out; omega
  have n4 : g9 < w6.heap.size := (Array.getElem?_eq_some_iff.1 H9.out).1
  have h9 := fr_block k4 H9.out n1
  have h16 := fr_block k4 H16.out n2
  have hz := k4.ipAt HZ6.out n3
  have d9 := (cells10 h9).2.2.2.2.2.2.2.2.2
  have f9 := free_lit (i := 9) h9
  have HW7 := Lib.hid k3.old
  have H9 := Lib.hid h9
  have H16 := Lib.hid h16
  have HZ7 := Lib.hid hz
  have HB2 := Lib.hid k2
  have HGB : Hid (g9 < b2 ∧ W.heap.size ≤ g9 ∧ g7 < g9 ∧ w.heap.size < g9) := by
    have a := HG9.out
    have b := HG.out
    show _ ∧ _
    omega
  clear c2 R6 HZ6 k1 k2 k3 k4 n1 n2 n3 n4 h9 h16 hz
  go_upto_region 13 with fail
  clear d9 f9
  have HX9 := Lib.hid (set9_10 H9.out (.slice (some ⟨b2, 0, none⟩) m m))
  have HX16 := Lib.hid (set_block (i := 9) H16.out (show g7 ≠ g9 by have a := HGB.out; omega) (.slice (some ⟨b2, 0, none⟩) m m))
  have HX2 := Lib.hid (set_block (i := 9) HB2.out (show b2 ≠ g9 by have a := HGB.out; omega) (.slice (some ⟨b2, 0, none⟩) m m))
  have HXZ : Hid (IpAt _ w.heap.size noIp (.slice none 0 0)) := set_block (i := 9) HZ7.out (show w.heap.size ≠ g9 by have a := HGB.out; omega) (.slice (some ⟨b2, 0, none⟩) m m)
  have HXW := Lib.hid (HW7.out.setCell (p := ⟨g9, 9, none⟩) HGB.out.2.1 (.slice (some ⟨b2, 0, none⟩) m m))
  clear H9 H16 HB2 HZ7 HW7
  generalize w7.setCell ⟨g9, 9, none⟩ (.slice (some ⟨b2, 0, none⟩) m m) = w8 at *
  go_upto_region 15 with fail
  have c3 := (cells14 HX16.out).2.1
  obtain ⟨d0, d1, d2, d3, d4, d5, d6, d7, d8, d9⟩ := cells10 HX9.out
  go_wp2_with fail
  refine (HRT.out _ _ _).mono ?_
  rintro e w9 ht
  obtain ⟨rfl, hb9⟩ := ht.good HBD.out
  clear ht c3 d0 d1 d2 d3 d4 d5 d6 d7 d8 d9
  have HZ := Lib.hid (HXZ.out.below hb9)
  have HQ := Lib.hid (below_to HB.out (below_to HXW.out hb9 HXW.out.size) HB.out.size)
  have HF := Lib.hid (be_block hb9 HX2.out)
  obtain ⟨d0, d1, d2, d3, d4, d5, d6, d7, d8, d9⟩ := cells10 (be_block hb9 HX9.out)
  have HGL : Hid (w.heap.size < b2) := by have a := HGB.out; show _ < _; omega
  clear HXZ HXW HX9 HX16 HX2 HB hb9
  unfold InOk
  go_wp2_with (refine wpList_store_row rfl 29 (.tmp 2) (.tmp 63) rfl w.heap.size #[.int .u8 h.tos, .int .u16 h.id, .bool df, .bool mf, .int .i64 off, .int .u8 h.ttl, .int .u8 h.proto, .int .u32 h.src, .int .u32 h.dst, .slice (some ⟨b2, 0, none⟩) m m] rfl rfl 29 _ HZ.out ipSize rfl (by simp [Value.oneCell']) ?_)
  (try simp only [Exit.inBlock, Exit.then])
  refine bodyPost_ret (results_cell_tmp_row rfl _ _ w.heap.size _ #[.int .u8 h.tos, .int .u16 h.id, .bool df, .bool mf, .int .i64 off, .int .u8 h.ttl, .int .u8 h.proto, .int .u32 h.src, .int .u32 h.dst, .slice (some ⟨b2, 0, none⟩) m m] (0, 0) _ rfl (setRow_heap _ _ _ _ _ _ HZ.out) Tryd.underlying29 rfl ipSize) rfl ?_
  refine ⟨b2, ?_, Nat.le_of_lt HGL.out, ?_, ((Fr.of_below (p := fun _ => False) HQ.out).row (Nat.le_refl _) _).below (Nat.le_refl _) (fun _ h => h.elim)⟩
  · rw [HVL.out b2]
    rfl
  · rw [setRow_other _ _ _ (by have a := HGL.out; omega), HVB.out]
    exact HF.out
end Go.Proofs.YtdhndahoaobhpaaDoor
