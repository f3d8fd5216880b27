/-
  What is proved: the document's Parse of layer 6 (underpassref06) by contract.
  Conditions: the bytes are fewer than 2^40; the addresses fit.
-/
import Derived.Test.YtikcnlcpbifobaaDoorURef
import Derived.Test.YtikcnlcpbifobaaDoorUBk
import Derived.Laws.Rows
namespace Go.Proofs.YtikcnlcpbifobaaDoor
open Go.RowKit

theorem utxt_mid (bs : List UInt8) (a b : Nat) : (txt bs).extract a b = txt ((bs.drop a).take (b - a)) := by
  apply ByteArray.ext
  rw [ByteArray.data_extract]
  simp [txt, List.extract_eq_take_drop]
theorem unum2 (n : Nat) (h : n < 65536) (W : World) : Calls Tryd.prog 19 #[.string (txt (be2 n))] W fun e w' => e = .returned (.int .u32 (n : Int)) ∧ W = w' := by
  have k := refNum2 (UInt8.ofNat (n / 256)) (UInt8.ofNat n) W
  rw [ube2_sum n h] at k
  exact k
def RErr (t : ByteArray) (w : World) (e : Ending) (w' : World) : Prop := e = .returned (.tuple #[.agg #[.int .u32 0, .int .u32 0, .bool false, .string ⟨#[]⟩], .string t]) ∧ Below w.heap.size w w'
def ROk (d : Dg) (w : World) (e : Ending) (w' : World) : Prop := e = .returned (.tuple #[.agg #[.int .u32 d.src, .int .u32 d.dst, .bool d.plain, .string (txt d.b)], .string ⟨#[]⟩]) ∧ Below w.heap.size w w'
theorem ubuild4 (x y : Int) (q : Bool) (z : ByteArray) (W : World) : (Instr.build 34 #[(0, .int .u32 x), (1, .int .u32 y), (2, .bool q), (3, .string z)]).run Tryd.prog W = .ok (.agg #[.int .u32 x, .int .u32 y, .bool q, .string z]) W := run_build W _ _ _ (by kernel_rfl)
set_option maxRecDepth 100000 in
set_option maxHeartbeats 8000000 in
theorem urefParse_short (l : List UInt8) (hl : l.length < 8) (s t : Nat) (w : World) :
    Calls Tryd.prog 10 #[.string (txt l), .int .u32 (s : Int), .int .u32 (t : Int)] w (RErr ⟨#[117, 100, 112, 58, 32, 111, 99, 116, 101, 116, 115, 58, 32, 101, 114, 114, 111, 114, 32, 50]⟩ w) := by
  have HZ := Lib.hid (heap_alloc_new w (.cells #[.int .u32 0, .int .u32 0, .bool false, .string ⟨#[]⟩] 34))
  have HB := Lib.hid (below_al (Below.refl w.heap.size w) (.cells #[.int .u32 0, .int .u32 0, .bool false, .string ⟨#[]⟩] 34))
  have hz : (txt l).size < 8 := by rw [txt_size]; exact hl
  generalize txt l = tl at *
  clear hl
  unfold RErr
  go_enter Tryd.func10, Tryd.ntmps10
  go_upto_region 1 with fail
  generalize w.alloc (.cells #[.int .u32 0, .int .u32 0, .bool false, .string ⟨#[]⟩] 34) = W0 at *
  generalize hnn : w.heap.size = n0 at HZ ⊢
  have HNN := Lib.hid hnn
  clear hnn
  go_wp2_with (refine wpList_store_row rfl 34 (.tmp 6) (.tmp 13) rfl n0 #[.int .u32 0, .int .u32 0, .bool false, .string ⟨#[]⟩] rfl rfl 34 _ HZ.out refDgSize rfl (by simp [Value.oneCell']) ?_)
  (try simp only [Exit.inBlock, Exit.then])
  refine bodyPost_ret (results_cell_tmp_row rfl _ _ n0 _ #[.int .u32 0, .int .u32 0, .bool false, .string ⟨#[]⟩] (0, 0) _ rfl (setRow_heap _ _ _ _ _ _ HZ.out) Tryd.underlying34 rfl refDgSize) rfl ?_
  exact ⟨rfl, ubelow_row HB.out (by rw [HNN.out]; exact Nat.le_refl _) _⟩
set_option maxRecDepth 100000 in
set_option maxHeartbeats 8000000 in
theorem urefParse_form (a : Nat) (_ha : a < 65536) (b : Nat) (_hb : b < 65536) (n : Nat) (hn : n < 65536) (c : Nat) (_hc : c < 65536) (r : List UInt8) (s t : Nat) (hz1 : n < 8) (hL : 8 + r.length ≤ 1099511627776) (w : World) :
    Calls Tryd.prog 10 #[.string (txt (hd8 a b n c ++ r)), .int .u32 (s : Int), .int .u32 (t : Int)] w (RErr ⟨#[117, 100, 112, 58, 32, 101, 114, 114, 111, 114, 32, 51]⟩ w) := by
  have HZ := Lib.hid (heap_alloc_new w (.cells #[.int .u32 0, .int .u32 0, .bool false, .string ⟨#[]⟩] 34))
  have HB := Lib.hid (below_al (Below.refl w.heap.size w) (.cells #[.int .u32 0, .int .u32 0, .bool false, .string ⟨#[]⟩] 34))
  obtain ⟨N, hN⟩ : ∃ N, 8 + r.length = N := ⟨_, rfl⟩
  have hz : (txt (hd8 a b n c ++ r)).size = N := by rw [txt_size, List.length_append, hd8_len, hN]
  have n3 : decide (N < 8) = false := decide_eq_false (by omega)
  have n3b : ¬ N < 8 := by omega
  have n4 : (8 : Int) ≤ (N : Int) := by omega
  have n5 : (N : Int) ≤ 1099511627776 := by omega
  obtain ⟨Z, hZ⟩ : ∃ Z : Int, (n : Int) = Z := ⟨_, rfl⟩
  have HNZ : Hid ((n : Int) = Z) := hZ
  have z1 : IntKind.i64.wrap Z = Z := i64_wrapI _ (by omega) (by omega)
  have x46 : (txt (hd8 a b n c ++ r)).extract 4 6 = txt (be2 n) := by rw [utxt_mid]; rfl
  have HN2 : Hid (∀ W, Calls Tryd.prog 19 #[.string (txt (be2 n))] W fun e w' => e = .returned (.int .u32 Z) ∧ W = w') := fun W => by rw [← hZ]; exact unum2 n hn W
  have m6 : ¬ (N : Int) < 6 := by omega
  have m6b : ¬ N < 6 := by omega
  have q1 : Z < 8 := by omega
  have q2 : decide (Z < 8) = true := decide_eq_true q1
  clear hL hN hZ _ha _hb hn _hc hz1
  generalize txt (be2 n) = t46 at *
  generalize txt (hd8 a b n c ++ r) = tl at *
  unfold RErr
  go_enter Tryd.func10, Tryd.ntmps10
  go_upto_region 1 with fail
  generalize w.alloc (.cells #[.int .u32 0, .int .u32 0, .bool false, .string ⟨#[]⟩] 34) = W0 at *
  generalize hnn : w.heap.size = n0 at HZ ⊢
  have HNN := Lib.hid hnn
  clear hnn
  go_wp2_with (first | (go_at_call 19; refine (HN2.out _).mono ?_; rintro e wq ⟨rfl, rfl⟩) | (refine wpList_store_row rfl 34 (.tmp 6) (.tmp 20) rfl n0 #[.int .u32 0, .int .u32 0, .bool false, .string ⟨#[]⟩] rfl rfl 34 _ HZ.out refDgSize rfl (by simp [Value.oneCell']) ?_))
  (try simp only [Exit.inBlock, Exit.then])
  refine bodyPost_ret (results_cell_tmp_row rfl _ _ n0 _ #[.int .u32 0, .int .u32 0, .bool false, .string ⟨#[]⟩] (0, 0) _ rfl (setRow_heap _ _ _ _ _ _ HZ.out) Tryd.underlying34 rfl refDgSize) rfl ?_
  exact ⟨rfl, ubelow_row HB.out (by rw [HNN.out]; exact Nat.le_refl _) _⟩
set_option maxRecDepth 100000 in
set_option maxHeartbeats 8000000 in
theorem urefParse_less (a : Nat) (_ha : a < 65536) (b : Nat) (_hb : b < 65536) (n : Nat) (hn : n < 65536) (c : Nat) (_hc : c < 65536) (r : List UInt8) (s t : Nat) (hz1 : 8 ≤ n) (hz2 : 8 + r.length < n) (hL : 8 + r.length ≤ 1099511627776) (w : World) :
    Calls Tryd.prog 10 #[.string (txt (hd8 a b n c ++ r)), .int .u32 (s : Int), .int .u32 (t : Int)] w (RErr ⟨#[117, 100, 112, 58, 32, 101, 114, 114, 111, 114, 32, 50]⟩ w) := by
  have HZ := Lib.hid (heap_alloc_new w (.cells #[.int .u32 0, .int .u32 0, .bool false, .string ⟨#[]⟩] 34))
  have HB := Lib.hid (below_al (Below.refl w.heap.size w) (.cells #[.int .u32 0, .int .u32 0, .bool false, .string ⟨#[]⟩] 34))
  obtain ⟨N, hN⟩ : ∃ N, 8 + r.length = N := ⟨_, rfl⟩
  have hz : (txt (hd8 a b n c ++ r)).size = N := by rw [txt_size, List.length_append, hd8_len, hN]
  have n3 : decide (N < 8) = false := decide_eq_false (by omega)
  have n3b : ¬ N < 8 := by omega
  have n4 : (8 : Int) ≤ (N : Int) := by omega
  have n5 : (N : Int) ≤ 1099511627776 := by omega
  obtain ⟨Z, hZ⟩ : ∃ Z : Int, (n : Int) = Z := ⟨_, rfl⟩
  have HNZ : Hid ((n : Int) = Z) := hZ
  have z1 : IntKind.i64.wrap Z = Z := i64_wrapI _ (by omega) (by omega)
  have x46 : (txt (hd8 a b n c ++ r)).extract 4 6 = txt (be2 n) := by rw [utxt_mid]; rfl
  have HN2 : Hid (∀ W, Calls Tryd.prog 19 #[.string (txt (be2 n))] W fun e w' => e = .returned (.int .u32 Z) ∧ W = w') := fun W => by rw [← hZ]; exact unum2 n hn W
  have m6 : ¬ (N : Int) < 6 := by omega
  have m6b : ¬ N < 6 := by omega
  have q1 : ¬ Z < 8 := by omega
  have q2 : decide (Z < 8) = false := decide_eq_false q1
  have q3 : (N : Int) < Z := by omega
  have q4 : decide ((N : Int) < Z) = true := decide_eq_true q3
  clear hL hN hZ _ha _hb hn _hc hz1 hz2
  generalize txt (be2 n) = t46 at *
  generalize txt (hd8 a b n c ++ r) = tl at *
  unfold RErr
  go_enter Tryd.func10, Tryd.ntmps10
  go_upto_region 1 with fail
  generalize w.alloc (.cells #[.int .u32 0, .int .u32 0, .bool false, .string ⟨#[]⟩] 34) = W0 at *
  generalize hnn : w.heap.size = n0 at HZ ⊢
  have HNN := Lib.hid hnn
  clear hnn
  go_wp2_with (first | (go_at_call 19; refine (HN2.out _).mono ?_; rintro e wq ⟨rfl, rfl⟩) | (refine wpList_store_row rfl 34 (.tmp 6) (.tmp 25) rfl n0 #[.int .u32 0, .int .u32 0, .bool false, .string ⟨#[]⟩] rfl rfl 34 _ HZ.out refDgSize rfl (by simp [Value.oneCell']) ?_))
  (try simp only [Exit.inBlock, Exit.then])
  refine bodyPost_ret (results_cell_tmp_row rfl _ _ n0 _ #[.int .u32 0, .int .u32 0, .bool false, .string ⟨#[]⟩] (0, 0) _ rfl (setRow_heap _ _ _ _ _ _ HZ.out) Tryd.underlying34 rfl refDgSize) rfl ?_
  exact ⟨rfl, ubelow_row HB.out (by rw [HNN.out]; exact Nat.le_refl _) _⟩
theorem vbelow_dr9 {w W : World} (h : Below w.heap.size w W) : Below w.heap.size w W.drew := ⟨h.os, h.tape, h.output, h.size, h.block⟩
set_option maxRecDepth 100000 in
set_option maxHeartbeats 8000000 in
theorem urefParse_plain (a : Nat) (ha : a < 65536) (b : Nat) (hb : b < 65536) (n : Nat) (hn : n < 65536) (c : Nat) (hc : c < 65536) (r : List UInt8) (s t : Nat) (hz1 : 8 ≤ n) (hz2 : n ≤ 8 + r.length) (hc0 : c = 0) (hL : 8 + r.length ≤ 1099511627776) (w : World) :
    Calls Tryd.prog 10 #[.string (txt (hd8 a b n c ++ r)), .int .u32 (s : Int), .int .u32 (t : Int)] w (ROk ⟨a, b, true, r.take (n - 8)⟩ w) := by
  have HZ := Lib.hid (heap_alloc_new w (.cells #[.int .u32 0, .int .u32 0, .bool false, .string ⟨#[]⟩] 34))
  have HB := Lib.hid (below_al (Below.refl w.heap.size w) (.cells #[.int .u32 0, .int .u32 0, .bool false, .string ⟨#[]⟩] 34))
  obtain ⟨N, hN⟩ : ∃ N, 8 + r.length = N := ⟨_, rfl⟩
  have hz : (txt (hd8 a b n c ++ r)).size = N := by rw [txt_size, List.length_append, hd8_len, hN]
  have n3 : decide (N < 8) = false := decide_eq_false (by omega)
  have n3b : ¬ N < 8 := by omega
  have n4 : (8 : Int) ≤ (N : Int) := by omega
  have n5 : (N : Int) ≤ 1099511627776 := by omega
  obtain ⟨Z, hZ⟩ : ∃ Z : Int, (n : Int) = Z := ⟨_, rfl⟩
  have HNZ : Hid ((n : Int) = Z) := hZ
  have z1 : IntKind.i64.wrap Z = Z := i64_wrapI _ (by omega) (by omega)
  have x46 : (txt (hd8 a b n c ++ r)).extract 4 6 = txt (be2 n) := by rw [utxt_mid]; rfl
  have HN2 : Hid (∀ W, Calls Tryd.prog 19 #[.string (txt (be2 n))] W fun e w' => e = .returned (.int .u32 Z) ∧ W = w') := fun W => by rw [← hZ]; exact unum2 n hn W
  have m6 : ¬ (N : Int) < 6 := by omega
  have m6b : ¬ N < 6 := by omega
  have q1 : ¬ Z < 8 := by omega
  have q2 : decide (Z < 8) = false := decide_eq_false q1
  have q3 : ¬ (N : Int) < Z := by omega
  have q4 : decide ((N : Int) < Z) = false := decide_eq_false q3
  have q5 : Z ≤ (N : Int) := by omega
  have q6 : 8 ≤ Z := by omega
  have q7 : 0 ≤ Z := by omega
  have q8 : ¬ Z < 0 := by omega
  have x02 : (txt (hd8 a b n c ++ r)).extract 0 2 = txt (be2 a) := by rw [utxt_mid]; rfl
  have x24 : (txt (hd8 a b n c ++ r)).extract 2 4 = txt (be2 b) := by rw [utxt_mid]; rfl
  have x68 : (txt (hd8 a b n c ++ r)).extract 6 8 = txt (be2 c) := by rw [utxt_mid]; rfl
  have x8n : (txt (hd8 a b n c ++ r)).extract 8 Z.toNat = txt (r.take (n - 8)) := by
    rw [utxt_mid, List.drop_left' (hd8_len a b n c), show Z.toNat = n by omega]
  have x0n : (txt (hd8 a b n c ++ r)).extract 0 Z.toNat = txt ((hd8 a b n c ++ r).take n) := by
    rw [utxt_mid, List.drop_zero, show Z.toNat - 0 = n by omega]
  obtain ⟨C, hC⟩ : ∃ C : Int, (c : Int) = C := ⟨_, rfl⟩
  have HNA : Hid (∀ W, _) := fun W => unum2 a ha W
  have HNB : Hid (∀ W, _) := fun W => unum2 b hb W
  have HNC : Hid (∀ W, Calls Tryd.prog 19 #[.string (txt (be2 c))] W fun e w' => e = .returned (.int .u32 C) ∧ W = w') := fun W => by rw [← hC]; exact unum2 c hc W
  have m2 : ¬ (N : Int) < 2 := by omega
  have m2b : ¬ N < 2 := by omega
  have m4 : ¬ (N : Int) < 4 := by omega
  have m4b : ¬ N < 4 := by omega
  have m8 : ¬ (N : Int) < 8 := by omega
  have gc : (C == 0) = true := by rw [← hC, hc0]; rfl
  clear hL hN hZ ha hb hn hc hz1 hz2 hC hc0
  generalize txt (be2 n) = t46 at *
  generalize txt (hd8 a b n c ++ r) = tl at *
  unfold ROk
  go_enter Tryd.func10, Tryd.ntmps10
  go_upto_region 1 with fail
  generalize w.alloc (.cells #[.int .u32 0, .int .u32 0, .bool false, .string ⟨#[]⟩] 34) = W0 at *
  generalize hnn : w.heap.size = n0 at HZ ⊢
  have HNN := Lib.hid hnn
  clear hnn
  generalize txt (be2 a) = t02 at *
  generalize txt (be2 b) = t24 at *
  generalize txt (be2 c) = t68 at *
  generalize htb : txt (r.take (n - 8)) = tb at *
  have HTB := Lib.hid htb
  clear htb
  go_upto_region 8 with (go_at_call 19; refine (HN2.out _).mono ?_; rintro e wq ⟨rfl, rfl⟩)
  go_cut [9] (fun s9 wx => ∃ g, s9 = .pointer (some ⟨g, 0, none⟩) ∧ wx.heap[g]? = some (.cells #[.int .u32 (a : Int), .int .u32 (b : Int), .bool true, .string tb] 34) ∧ wx.heap[n0]? = some (.cells #[.int .u32 0, .int .u32 0, .bool false, .string ⟨#[]⟩] 34) ∧ Below w.heap.size w wx)
  case first =>
    go_region_held_law (fun _ => True) (first | assumption | exact trivial)
      (first
        | (go_at_call 19; (with_reducible refine (HNA.out _).mono ?_); rintro e wq ⟨rfl, rfl⟩)
        | (go_at_call 19; (with_reducible refine (HNB.out _).mono ?_); rintro e wq ⟨rfl, rfl⟩)
        | (go_at_call 19; (with_reducible refine (HNC.out _).mono ?_); rintro e wq ⟨rfl, rfl⟩))
    all_goals
      go_wp2_with fail
      go_meet
      first
        | exact ⟨_, rfl, heap_alloc_new W0.drew _, be_block (below_al (Below.refl _ _) _) (show W0.drew.heap[n0]? = _ from HZ.out), below_al (vbelow_dr HB.out) _⟩
        | (trace_state; sorry)
  obtain ⟨g9, rfl, h1, h2, h3⟩ := hcut
  have H9 := Lib.hid h1
  have HZ8 := Lib.hid h2
  have HB8 := Lib.hid h3
  clear h1 h2 h3 HZ HB
  generalize wc = w8 at *
  go_upto_region 9 with fail
  have c2 := (cells4 (show w8.drew.heap[g9]? = _ from H9.out)).2.2.1
  refine wp_region_any (by kernel_rfl) ?_
  change wpAny _ _ _ _ _ _ _ (World.drew _)
  refine wpAny_take (i := 0) (oi := ⟨some 40, _, _, _, _, _⟩) (v := (.pointer (some ⟨g9, 2, none⟩))) rfl (by kernel_rfl) (by kernel_rfl) (by kernel_rfl) (fun _ _ _ h => h) (Or.inl ⟨by rfl, ?_⟩) ?_
  · intro W
    go_simp
  try simp only [Act.put, List.setIfInBounds_toArray, List.set_cons_zero, List.set_cons_succ]
  refine wpAny_ready (rs := [1]) (by kernel_rfl) (by simp) ?_
  refine AllReady.cons (o := ⟨some 41, _, _, _, _, _⟩) rfl (fun K hK => ?_) ?_
  · have hk := Lib.hid hK
    clear hK
    go_simp
    refine hk.out _ _ ?_
    clear hk K c2
    try simp only [Act.put, List.setIfInBounds_toArray, List.set_cons_zero, List.set_cons_succ]
    refine wpAny_take (i := 2) (oi := ⟨some 42, _, _, _, _, _⟩) (v := (.bool false)) rfl (by kernel_rfl) (by kernel_rfl) (by kernel_rfl) (fun _ _ _ h => h) (Or.inl ⟨by rfl, ?_⟩) ?_
    · intro W
      go_simp
    try simp only [Act.put, List.setIfInBounds_toArray, List.set_cons_zero, List.set_cons_succ]
    refine wpAny_take (i := 3) (oi := ⟨some 43, _, _, _, _, _⟩) (v := (.bool false)) rfl (by kernel_rfl) (by kernel_rfl) (by kernel_rfl) (fun _ _ _ h => h) (Or.inl ⟨by rfl, ?_⟩) ?_
    · intro W
      go_simp
    try simp only [Act.put, List.setIfInBounds_toArray, List.set_cons_zero, List.set_cons_succ]
    refine wpAny_take (i := 4) (oi := ⟨some 44, _, _, _, _, _⟩) (v := undef) rfl (by kernel_rfl) (by kernel_rfl) (by kernel_rfl) (fun _ _ _ h => h) (Or.inr ⟨by rfl, rfl⟩) ?_
    try simp only [Act.put, List.setIfInBounds_toArray, List.set_cons_zero, List.set_cons_succ]
    refine wpAny_take (i := 5) (oi := ⟨some 45, _, _, _, _, _⟩) (v := undef) rfl (by kernel_rfl) (by kernel_rfl) (by kernel_rfl) (fun _ _ _ h => h) (Or.inr ⟨by rfl, rfl⟩) ?_
    try simp only [Act.put, List.setIfInBounds_toArray, List.set_cons_zero, List.set_cons_succ]
    refine wpAny_take (i := 6) (oi := ⟨some 46, _, _, _, _, _⟩) (v := undef) rfl (by kernel_rfl) (by kernel_rfl) (by kernel_rfl) (fun _ _ _ h => h) (Or.inr ⟨by rfl, rfl⟩) ?_
    try simp only [Act.put, List.setIfInBounds_toArray, List.set_cons_zero, List.set_cons_succ]
    refine wpAny_take (i := 7) (oi := ⟨some 47, _, _, _, _, _⟩) (v := undef) rfl (by kernel_rfl) (by kernel_rfl) (by kernel_rfl) (fun _ _ _ h => h) (Or.inr ⟨by rfl, rfl⟩) ?_
    try simp only [Act.put, List.setIfInBounds_toArray, List.set_cons_zero, List.set_cons_succ]
    refine wpAny_take (i := 8) (oi := ⟨some 48, _, _, _, _, _⟩) (v := undef) rfl (by kernel_rfl) (by kernel_rfl) (by kernel_rfl) (fun _ _ _ h => h) (Or.inr ⟨by rfl, rfl⟩) ?_
    try simp only [Act.put, List.setIfInBounds_toArray, List.set_cons_zero, List.set_cons_succ]
    refine wpAny_take (i := 9) (oi := ⟨some 49, _, _, _, _, _⟩) (v := undef) rfl (by kernel_rfl) (by kernel_rfl) (by kernel_rfl) (fun _ _ _ h => h) (Or.inr ⟨by rfl, rfl⟩) ?_
    try simp only [Act.put, List.setIfInBounds_toArray, List.set_cons_zero, List.set_cons_succ]
    refine wpAny_take (i := 10) (oi := ⟨some 50, _, _, _, _, _⟩) (v := undef) rfl (by kernel_rfl) (by kernel_rfl) (by kernel_rfl) (fun _ _ _ h => h) (Or.inr ⟨by rfl, rfl⟩) ?_
    try simp only [Act.put, List.setIfInBounds_toArray, List.set_cons_zero, List.set_cons_succ]
    refine wpAny_take (i := 11) (oi := ⟨some 51, _, _, _, _, _⟩) (v := undef) rfl (by kernel_rfl) (by kernel_rfl) (by kernel_rfl) (fun _ _ _ h => h) (Or.inr ⟨by rfl, rfl⟩) ?_
    try simp only [Act.put, List.setIfInBounds_toArray, List.set_cons_zero, List.set_cons_succ]
    refine wpAny_take (i := 12) (oi := ⟨some 52, _, _, _, _, _⟩) (v := undef) rfl (by kernel_rfl) (by kernel_rfl) (by kernel_rfl) (fun _ _ _ h => h) (Or.inr ⟨by rfl, rfl⟩) ?_
    try simp only [Act.put, List.setIfInBounds_toArray, List.set_cons_zero, List.set_cons_succ]
    refine wpAny_take (i := 13) (oi := ⟨some 53, _, _, _, _, _⟩) (v := undef) rfl (by kernel_rfl) (by kernel_rfl) (by kernel_rfl) (fun _ _ _ h => h) (Or.inr ⟨by rfl, rfl⟩) ?_
    try simp only [Act.put, List.setIfInBounds_toArray, List.set_cons_zero, List.set_cons_succ]
    refine wpAny_take (i := 14) (oi := ⟨some 54, _, _, _, _, _⟩) (v := (.bool false)) rfl (by kernel_rfl) (by kernel_rfl) (by kernel_rfl) (fun _ _ _ h => h) (Or.inl ⟨by rfl, ?_⟩) ?_
    · intro W
      go_simp
    try simp only [Act.put, List.setIfInBounds_toArray, List.set_cons_zero, List.set_cons_succ]
    refine wpAny_done (by kernel_rfl) ?_ _
    obtain ⟨c0, c1, c2, c3⟩ := cells4 (show w8.drew.heap[g9]? = _ from H9.out)
    go_wp2_with (refine wpList_store_row rfl 34 (.tmp 6) (.tmp 56) rfl n0 #[.int .u32 (a : Int), .int .u32 (b : Int), .bool true, .string tb] rfl rfl 34 _ (show w8.drew.heap[n0]? = _ from HZ8.out) refDgSize rfl (by simp [Value.oneCell']) ?_)
    (try simp only [Exit.inBlock, Exit.then])
    refine bodyPost_ret (results_cell_tmp_row rfl _ _ n0 _ #[.int .u32 (a : Int), .int .u32 (b : Int), .bool true, .string tb] (0, 0) _ rfl (setRow_heap _ _ _ _ _ _ (show w8.drew.heap[n0]? = _ from HZ8.out)) Tryd.underlying34 rfl refDgSize) rfl ?_
    exact ⟨by rw [HTB.out]; rfl, ubelow_row (vbelow_dr9 HB8.out) (by rw [HNN.out]; exact Nat.le_refl _) _⟩
  exact AllReady.nil
set_option maxRecDepth 100000 in
set_option maxHeartbeats 8000000 in
theorem urefParse_ok (a : Nat) (ha : a < 65536) (b : Nat) (hb : b < 65536) (n : Nat) (hn : n < 65536) (c : Nat) (hc : c < 65536) (r : List UInt8) (s t : Nat) (hz1 : 8 ≤ n) (hz2 : n ≤ 8 + r.length) (hc0 : c ≠ 0) (hs : s < 4294967296) (ht : t < 4294967296) (hck : ck (psd s t 17 (n : Nat) ++ (hd8 a b n c ++ r).take n) = 0) (hL : 8 + r.length ≤ 1099511627776) (w : World) :
    Calls Tryd.prog 10 #[.string (txt (hd8 a b n c ++ r)), .int .u32 (s : Int), .int .u32 (t : Int)] w (ROk ⟨a, b, false, r.take (n - 8)⟩ w) := by
  have HZ := Lib.hid (heap_alloc_new w (.cells #[.int .u32 0, .int .u32 0, .bool false, .string ⟨#[]⟩] 34))
  have HB := Lib.hid (below_al (Below.refl w.heap.size w) (.cells #[.int .u32 0, .int .u32 0, .bool false, .string ⟨#[]⟩] 34))
  obtain ⟨N, hN⟩ : ∃ N, 8 + r.length = N := ⟨_, rfl⟩
  have hz : (txt (hd8 a b n c ++ r)).size = N := by rw [txt_size, List.length_append, hd8_len, hN]
  have n3 : decide (N < 8) = false := decide_eq_false (by omega)
  have n3b : ¬ N < 8 := by omega
  have n4 : (8 : Int) ≤ (N : Int) := by omega
  have n5 : (N : Int) ≤ 1099511627776 := by omega
  obtain ⟨Z, hZ⟩ : ∃ Z : Int, (n : Int) = Z := ⟨_, rfl⟩
  have HNZ : Hid ((n : Int) = Z) := hZ
  have z1 : IntKind.i64.wrap Z = Z := i64_wrapI _ (by omega) (by omega)
  have x46 : (txt (hd8 a b n c ++ r)).extract 4 6 = txt (be2 n) := by rw [utxt_mid]; rfl
  have HN2 : Hid (∀ W, Calls Tryd.prog 19 #[.string (txt (be2 n))] W fun e w' => e = .returned (.int .u32 Z) ∧ W = w') := fun W => by rw [← hZ]; exact unum2 n hn W
  have m6 : ¬ (N : Int) < 6 := by omega
  have m6b : ¬ N < 6 := by omega
  have q1 : ¬ Z < 8 := by omega
  have q2 : decide (Z < 8) = false := decide_eq_false q1
  have q3 : ¬ (N : Int) < Z := by omega
  have q4 : decide ((N : Int) < Z) = false := decide_eq_false q3
  have q5 : Z ≤ (N : Int) := by omega
  have q6 : 8 ≤ Z := by omega
  have q7 : 0 ≤ Z := by omega
  have q8 : ¬ Z < 0 := by omega
  have x02 : (txt (hd8 a b n c ++ r)).extract 0 2 = txt (be2 a) := by rw [utxt_mid]; rfl
  have x24 : (txt (hd8 a b n c ++ r)).extract 2 4 = txt (be2 b) := by rw [utxt_mid]; rfl
  have x68 : (txt (hd8 a b n c ++ r)).extract 6 8 = txt (be2 c) := by rw [utxt_mid]; rfl
  have x8n : (txt (hd8 a b n c ++ r)).extract 8 Z.toNat = txt (r.take (n - 8)) := by
    rw [utxt_mid, List.drop_left' (hd8_len a b n c), show Z.toNat = n by omega]
  have x0n : (txt (hd8 a b n c ++ r)).extract 0 Z.toNat = txt ((hd8 a b n c ++ r).take n) := by
    rw [utxt_mid, List.drop_zero, show Z.toNat - 0 = n by omega]
  obtain ⟨C, hC⟩ : ∃ C : Int, (c : Int) = C := ⟨_, rfl⟩
  have HNA : Hid (∀ W, _) := fun W => unum2 a ha W
  have HNB : Hid (∀ W, _) := fun W => unum2 b hb W
  have HNC : Hid (∀ W, Calls Tryd.prog 19 #[.string (txt (be2 c))] W fun e w' => e = .returned (.int .u32 C) ∧ W = w') := fun W => by rw [← hC]; exact unum2 c hc W
  have m2 : ¬ (N : Int) < 2 := by omega
  have m2b : ¬ N < 2 := by omega
  have m4 : ¬ (N : Int) < 4 := by omega
  have m4b : ¬ N < 4 := by omega
  have m8 : ¬ (N : Int) < 8 := by omega
  have gc : (C == 0) = false := by rw [← hC, ubeq_zero]; exact decide_eq_false hc0
  obtain ⟨K, hK⟩ : ∃ K : Int, ((ck (psd s t 17 (n : Nat) ++ (hd8 a b n c ++ r).take n) : Nat) : Int) = K := ⟨_, rfl⟩
  have gk : (K != 0) = false := by
    rw [← hK]
    rw [hck]; rfl
  have htl : ((hd8 a b n c ++ r).take n).length = n := by rw [List.length_take, List.length_append, hd8_len]; omega
  have XP : Hid (∀ W : World, Calls Tryd.prog 21 #[.int .u32 (s : Int), .int .u32 (t : Int), .int .u8 17, .int .i64 Z] W fun e w' => e = .returned (.string (txt (psd s t 17 (n : Nat)))) ∧ Below W.heap.size W w') := fun W => by rw [← hZ]; exact refPseudo_any s t 17 (n : Nat) hs ht (by decide) W
  have XS : Hid (∀ W : World, Calls Tryd.prog 20 #[.string (txt (psd s t 17 (n : Nat) ++ (hd8 a b n c ++ r).take n))] W fun e w' => e = .returned (.int .u16 K) ∧ ∃ m, w' = W.drewN m) := fun W => by rw [← hK]; exact refSum_any _ (by rw [List.length_append, psd_len, htl]; omega) W
  have a1 : txt (psd s t 17 (n : Nat)) ++ txt ((hd8 a b n c ++ r).take n) = txt (psd s t 17 (n : Nat) ++ (hd8 a b n c ++ r).take n) := txt_append _ _
  have p1 : (txt (psd s t 17 (n : Nat))).size = 12 := txt_size _
  have p2 : (txt ((hd8 a b n c ++ r).take n)).size = n := by rw [txt_size, htl]
  have p3 : ¬ 9223372036854775807 < 12 + n := by omega
  generalize txt (psd s t 17 (n : Nat) ++ (hd8 a b n c ++ r).take n) = SA at *
  generalize txt (psd s t 17 (n : Nat)) = SP at *
  generalize txt ((hd8 a b n c ++ r).take n) = SX at *
  clear hL hN hZ ha hb hn hc hz1 hz2 hC hc0 hs ht hck hK htl
  generalize txt (be2 n) = t46 at *
  generalize txt (hd8 a b n c ++ r) = tl at *
  unfold ROk
  go_enter Tryd.func10, Tryd.ntmps10
  go_upto_region 1 with fail
  generalize w.alloc (.cells #[.int .u32 0, .int .u32 0, .bool false, .string ⟨#[]⟩] 34) = W0 at *
  generalize hnn : w.heap.size = n0 at HZ ⊢
  have HNN := Lib.hid hnn
  clear hnn
  generalize txt (be2 a) = t02 at *
  generalize txt (be2 b) = t24 at *
  generalize txt (be2 c) = t68 at *
  generalize htb : txt (r.take (n - 8)) = tb at *
  have HTB := Lib.hid htb
  clear htb
  go_upto_region 8 with (go_at_call 19; refine (HN2.out _).mono ?_; rintro e wq ⟨rfl, rfl⟩)
  go_cut [9] (fun s9 wx => ∃ g, s9 = .pointer (some ⟨g, 0, none⟩) ∧ wx.heap[g]? = some (.cells #[.int .u32 (a : Int), .int .u32 (b : Int), .bool false, .string tb] 34) ∧ wx.heap[n0]? = some (.cells #[.int .u32 0, .int .u32 0, .bool false, .string ⟨#[]⟩] 34) ∧ Below w.heap.size w wx)
  case first =>
    go_region_held_law (fun _ => True) (first | assumption | exact trivial)
      (first
        | (go_at_call 19; (with_reducible refine (HNA.out _).mono ?_); rintro e wq ⟨rfl, rfl⟩)
        | (go_at_call 19; (with_reducible refine (HNB.out _).mono ?_); rintro e wq ⟨rfl, rfl⟩)
        | (go_at_call 19; (with_reducible refine (HNC.out _).mono ?_); rintro e wq ⟨rfl, rfl⟩))
    all_goals
      go_wp2_with fail
      go_meet
      first
        | exact ⟨_, rfl, heap_alloc_new W0.drew _, be_block (below_al (Below.refl _ _) _) (show W0.drew.heap[n0]? = _ from HZ.out), below_al (vbelow_dr HB.out) _⟩
        | (trace_state; sorry)
  obtain ⟨g9, rfl, h1, h2, h3⟩ := hcut
  have H9 := Lib.hid h1
  have HZ8 := Lib.hid h2
  have HB8 := Lib.hid h3
  clear h1 h2 h3 HZ HB
  generalize wc = w8 at *
  go_upto_region 9 with fail
  go_cut [54] (fun s54 wx => s54 = .bool false ∧ Below w8.heap.size w8 wx)
  case first =>
    have KS : Hid (∀ W, Below w8.heap.size w8 W → W.cell? ⟨g9, 2, none⟩ = some (.bool false)) := fun W h => (cells4 (be_block h H9.out)).2.2.1
    go_region_held_law (fun W => W.cell? ⟨g9, 2, none⟩ = some (.bool false))
      (first | assumption | exact KS.out _ (below_drew w8) | exact KS.out _ HL2.out | exact KS.out _ HL1.out)
      (first
        | (go_at_call 21; (with_reducible refine (XP.out _).mono ?_); rintro e x1 ⟨rfl, hl⟩; (have HL1 := Lib.hid ((below_drew w8).trans hl)); clear hl)
        | (go_at_call 20; (with_reducible refine (XS.out _).mono ?_); rintro e x2 ⟨rfl, m, hm⟩; (have HL2 : Hid (Below w8.heap.size w8 x2) := by rw [hm]; exact dr_below HL1.out m); clear hm))
    all_goals
      go_wp2_with fail
      go_meet
      exact ⟨rfl, HL2.out⟩
  obtain ⟨rfl, hl⟩ := hcut
  have HZ9 := Lib.hid (show wc.heap[n0]? = _ from (hl.block n0 (Array.getElem?_eq_some_iff.1 HZ8.out).1).trans HZ8.out)
  have H10 := Lib.hid (be_block hl H9.out)
  have HB9 := Lib.hid (below_to HB8.out hl HB8.out.size)
  clear hl
  generalize wc = w9 at *
  obtain ⟨c0, c1, c2, c3⟩ := cells4 H10.out
  go_wp2_with (refine wpList_store_row rfl 34 (.tmp 6) (.tmp 56) rfl n0 #[.int .u32 (a : Int), .int .u32 (b : Int), .bool false, .string tb] rfl rfl 34 _ HZ9.out refDgSize rfl (by simp [Value.oneCell']) ?_)
  (try simp only [Exit.inBlock, Exit.then])
  refine bodyPost_ret (results_cell_tmp_row rfl _ _ n0 _ #[.int .u32 (a : Int), .int .u32 (b : Int), .bool false, .string tb] (0, 0) _ rfl (setRow_heap _ _ _ _ _ _ HZ9.out) Tryd.underlying34 rfl refDgSize) rfl ?_
  exact ⟨by rw [HTB.out]; rfl, ubelow_row HB9.out (by rw [HNN.out]; exact Nat.le_refl _) _⟩
set_option maxRecDepth 100000 in
set_option maxHeartbeats 8000000 in
theorem urefParse_sum (a : Nat) (ha : a < 65536) (b : Nat) (hb : b < 65536) (n : Nat) (hn : n < 65536) (c : Nat) (hc : c < 65536) (r : List UInt8) (s t : Nat) (hz1 : 8 ≤ n) (hz2 : n ≤ 8 + r.length) (hc0 : c ≠ 0) (hs : s < 4294967296) (ht : t < 4294967296) (hck : ck (psd s t 17 (n : Nat) ++ (hd8 a b n c ++ r).take n) ≠ 0) (hL : 8 + r.length ≤ 1099511627776) (w : World) :
    Calls Tryd.prog 10 #[.string (txt (hd8 a b n c ++ r)), .int .u32 (s : Int), .int .u32 (t : Int)] w (RErr ⟨#[117, 100, 112, 58, 32, 101, 114, 114, 111, 114, 32, 52]⟩ w) := by
  have HZ := Lib.hid (heap_alloc_new w (.cells #[.int .u32 0, .int .u32 0, .bool false, .string ⟨#[]⟩] 34))
  have HB := Lib.hid (below_al (Below.refl w.heap.size w) (.cells #[.int .u32 0, .int .u32 0, .bool false, .string ⟨#[]⟩] 34))
  obtain ⟨N, hN⟩ : ∃ N, 8 + r.length = N := ⟨_, rfl⟩
  have hz : (txt (hd8 a b n c ++ r)).size = N := by rw [txt_size, List.length_append, hd8_len, hN]
  have n3 : decide (N < 8) = false := decide_eq_false (by omega)
  have n3b : ¬ N < 8 := by omega
  have n4 : (8 : Int) ≤ (N : Int) := by omega
  have n5 : (N : Int) ≤ 1099511627776 := by omega
  obtain ⟨Z, hZ⟩ : ∃ Z : Int, (n : Int) = Z := ⟨_, rfl⟩
  have HNZ : Hid ((n : Int) = Z) := hZ
  have z1 : IntKind.i64.wrap Z = Z := i64_wrapI _ (by omega) (by omega)
  have x46 : (txt (hd8 a b n c ++ r)).extract 4 6 = txt (be2 n) := by rw [utxt_mid]; rfl
  have HN2 : Hid (∀ W, Calls Tryd.prog 19 #[.string (txt (be2 n))] W fun e w' => e = .returned (.int .u32 Z) ∧ W = w') := fun W => by rw [← hZ]; exact unum2 n hn W
  have m6 : ¬ (N : Int) < 6 := by omega
  have m6b : ¬ N < 6 := by omega
  have q1 : ¬ Z < 8 := by omega
  have q2 : decide (Z < 8) = false := decide_eq_false q1
  have q3 : ¬ (N : Int) < Z := by omega
  have q4 : decide ((N : Int) < Z) = false := decide_eq_false q3
  have q5 : Z ≤ (N : Int) := by omega
  have q6 : 8 ≤ Z := by omega
  have q7 : 0 ≤ Z := by omega
  have q8 : ¬ Z < 0 := by omega
  have x02 : (txt (hd8 a b n c ++ r)).extract 0 2 = txt (be2 a) := by rw [utxt_mid]; rfl
  have x24 : (txt (hd8 a b n c ++ r)).extract 2 4 = txt (be2 b) := by rw [utxt_mid]; rfl
  have x68 : (txt (hd8 a b n c ++ r)).extract 6 8 = txt (be2 c) := by rw [utxt_mid]; rfl
  have x8n : (txt (hd8 a b n c ++ r)).extract 8 Z.toNat = txt (r.take (n - 8)) := by
    rw [utxt_mid, List.drop_left' (hd8_len a b n c), show Z.toNat = n by omega]
  have x0n : (txt (hd8 a b n c ++ r)).extract 0 Z.toNat = txt ((hd8 a b n c ++ r).take n) := by
    rw [utxt_mid, List.drop_zero, show Z.toNat - 0 = n by omega]
  obtain ⟨C, hC⟩ : ∃ C : Int, (c : Int) = C := ⟨_, rfl⟩
  have HNA : Hid (∀ W, _) := fun W => unum2 a ha W
  have HNB : Hid (∀ W, _) := fun W => unum2 b hb W
  have HNC : Hid (∀ W, Calls Tryd.prog 19 #[.string (txt (be2 c))] W fun e w' => e = .returned (.int .u32 C) ∧ W = w') := fun W => by rw [← hC]; exact unum2 c hc W
  have m2 : ¬ (N : Int) < 2 := by omega
  have m2b : ¬ N < 2 := by omega
  have m4 : ¬ (N : Int) < 4 := by omega
  have m4b : ¬ N < 4 := by omega
  have m8 : ¬ (N : Int) < 8 := by omega
  have gc : (C == 0) = false := by rw [← hC, ubeq_zero]; exact decide_eq_false hc0
  obtain ⟨K, hK⟩ : ∃ K : Int, ((ck (psd s t 17 (n : Nat) ++ (hd8 a b n c ++ r).take n) : Nat) : Int) = K := ⟨_, rfl⟩
  have gk : (K != 0) = true := by
    rw [← hK]
    simp only [bne_iff_ne, ne_eq]; omega
  have htl : ((hd8 a b n c ++ r).take n).length = n := by rw [List.length_take, List.length_append, hd8_len]; omega
  have XP : Hid (∀ W : World, Calls Tryd.prog 21 #[.int .u32 (s : Int), .int .u32 (t : Int), .int .u8 17, .int .i64 Z] W fun e w' => e = .returned (.string (txt (psd s t 17 (n : Nat)))) ∧ Below W.heap.size W w') := fun W => by rw [← hZ]; exact refPseudo_any s t 17 (n : Nat) hs ht (by decide) W
  have XS : Hid (∀ W : World, Calls Tryd.prog 20 #[.string (txt (psd s t 17 (n : Nat) ++ (hd8 a b n c ++ r).take n))] W fun e w' => e = .returned (.int .u16 K) ∧ ∃ m, w' = W.drewN m) := fun W => by rw [← hK]; exact refSum_any _ (by rw [List.length_append, psd_len, htl]; omega) W
  have a1 : txt (psd s t 17 (n : Nat)) ++ txt ((hd8 a b n c ++ r).take n) = txt (psd s t 17 (n : Nat) ++ (hd8 a b n c ++ r).take n) := txt_append _ _
  have p1 : (txt (psd s t 17 (n : Nat))).size = 12 := txt_size _
  have p2 : (txt ((hd8 a b n c ++ r).take n)).size = n := by rw [txt_size, htl]
  have p3 : ¬ 9223372036854775807 < 12 + n := by omega
  generalize txt (psd s t 17 (n : Nat) ++ (hd8 a b n c ++ r).take n) = SA at *
  generalize txt (psd s t 17 (n : Nat)) = SP at *
  generalize txt ((hd8 a b n c ++ r).take n) = SX at *
  clear hL hN hZ ha hb hn hc hz1 hz2 hC hc0 hs ht hck hK htl
  generalize txt (be2 n) = t46 at *
  generalize txt (hd8 a b n c ++ r) = tl at *
  unfold RErr
  go_enter Tryd.func10, Tryd.ntmps10
  go_upto_region 1 with fail
  generalize w.alloc (.cells #[.int .u32 0, .int .u32 0, .bool false, .string ⟨#[]⟩] 34) = W0 at *
  generalize hnn : w.heap.size = n0 at HZ ⊢
  have HNN := Lib.hid hnn
  clear hnn
  generalize txt (be2 a) = t02 at *
  generalize txt (be2 b) = t24 at *
  generalize txt (be2 c) = t68 at *
  generalize htb : txt (r.take (n - 8)) = tb at *
  have HTB := Lib.hid htb
  clear htb
  go_upto_region 8 with (go_at_call 19; refine (HN2.out _).mono ?_; rintro e wq ⟨rfl, rfl⟩)
  go_cut [9] (fun s9 wx => ∃ g, s9 = .pointer (some ⟨g, 0, none⟩) ∧ wx.heap[g]? = some (.cells #[.int .u32 (a : Int), .int .u32 (b : Int), .bool false, .string tb] 34) ∧ wx.heap[n0]? = some (.cells #[.int .u32 0, .int .u32 0, .bool false, .string ⟨#[]⟩] 34) ∧ Below w.heap.size w wx)
  case first =>
    go_region_held_law (fun _ => True) (first | assumption | exact trivial)
      (first
        | (go_at_call 19; (with_reducible refine (HNA.out _).mono ?_); rintro e wq ⟨rfl, rfl⟩)
        | (go_at_call 19; (with_reducible refine (HNB.out _).mono ?_); rintro e wq ⟨rfl, rfl⟩)
        | (go_at_call 19; (with_reducible refine (HNC.out _).mono ?_); rintro e wq ⟨rfl, rfl⟩))
    all_goals
      go_wp2_with fail
      go_meet
      first
        | exact ⟨_, rfl, heap_alloc_new W0.drew _, be_block (below_al (Below.refl _ _) _) (show W0.drew.heap[n0]? = _ from HZ.out), below_al (vbelow_dr HB.out) _⟩
        | (trace_state; sorry)
  obtain ⟨g9, rfl, h1, h2, h3⟩ := hcut
  have H9 := Lib.hid h1
  have HZ8 := Lib.hid h2
  have HB8 := Lib.hid h3
  clear h1 h2 h3 HZ HB
  generalize wc = w8 at *
  go_upto_region 9 with fail
  go_cut [54] (fun s54 wx => s54 = .bool true ∧ Below w8.heap.size w8 wx)
  case first =>
    have KS : Hid (∀ W, Below w8.heap.size w8 W → W.cell? ⟨g9, 2, none⟩ = some (.bool false)) := fun W h => (cells4 (be_block h H9.out)).2.2.1
    go_region_held_law (fun W => W.cell? ⟨g9, 2, none⟩ = some (.bool false))
      (first | assumption | exact KS.out _ (below_drew w8) | exact KS.out _ HL2.out | exact KS.out _ HL1.out)
      (first
        | (go_at_call 21; (with_reducible refine (XP.out _).mono ?_); rintro e x1 ⟨rfl, hl⟩; (have HL1 := Lib.hid ((below_drew w8).trans hl)); clear hl)
        | (go_at_call 20; (with_reducible refine (XS.out _).mono ?_); rintro e x2 ⟨rfl, m, hm⟩; (have HL2 : Hid (Below w8.heap.size w8 x2) := by rw [hm]; exact dr_below HL1.out m); clear hm))
    all_goals
      go_wp2_with fail
      go_meet
      exact ⟨rfl, HL2.out⟩
  obtain ⟨rfl, hl⟩ := hcut
  have HZ9 := Lib.hid (show wc.heap[n0]? = _ from (hl.block n0 (Array.getElem?_eq_some_iff.1 HZ8.out).1).trans HZ8.out)
  have H10 := Lib.hid (be_block hl H9.out)
  have HB9 := Lib.hid (below_to HB8.out hl HB8.out.size)
  clear hl
  generalize wc = w9 at *
  go_wp2_with (refine wpList_store_row rfl 34 (.tmp 6) (.tmp 55) rfl n0 #[.int .u32 0, .int .u32 0, .bool false, .string ⟨#[]⟩] rfl rfl 34 _ HZ9.out refDgSize rfl (by simp [Value.oneCell']) ?_)
  (try simp only [Exit.inBlock, Exit.then])
  refine bodyPost_ret (results_cell_tmp_row rfl _ _ n0 _ #[.int .u32 0, .int .u32 0, .bool false, .string ⟨#[]⟩] (0, 0) _ rfl (setRow_heap _ _ _ _ _ _ HZ9.out) Tryd.underlying34 rfl refDgSize) rfl ?_
  exact ⟨rfl, ubelow_row HB9.out (by rw [HNN.out]; exact Nat.le_refl _) _⟩
end Go.Proofs.YtikcnlcpbifobaaDoor
