/-
  What is proved: the document's text and Bytes of layer 6 (underpassref06) by contract.
  Conditions: the datagram's numbers fit their types; it has fewer than 65516 bytes.
-/
import Derived.Test.YtikcnlcpbifobaaDoorUOf
import Derived.Test.YtikcnlcpbifobaaDoorLawUSizes
import Derived.Test.YtikcnlcpbifobaaDoorRNum
namespace Go.Proofs.YtikcnlcpbifobaaDoor
open Go.RowKit

theorem dr_below {B : Nat} {w W : World} (h : Below B w W) (m : Nat) : Below B w (W.drewN m) := ⟨h.os, h.tape, h.output, h.size, h.block⟩
theorem u32_wrapI (z : Int) (h0 : 0 ≤ z) (h : z < 4294967296) : IntKind.u32.wrap z = z := by
  have h1 : IntKind.u32.bits = 32 := rfl
  have h2 : IntKind.u32.signed = false := rfl
  simp [IntKind.wrap, h1, h2]
  omega
theorem cells4 {W : World} {G : Nat} {a b c d : Value} {T : TypeId} (h : W.heap[G]? = some (.cells #[a, b, c, d] T)) : W.cell? ⟨G, 0, none⟩ = some a ∧ W.cell? ⟨G, 1, none⟩ = some b ∧ W.cell? ⟨G, 2, none⟩ = some c ∧ W.cell? ⟨G, 3, none⟩ = some d := by
  refine ⟨?_, ?_, ?_, ?_⟩ <;> (rw [cell_of_row W G _ _ _ _ h]; rfl)
set_option maxRecDepth 100000 in
set_option maxHeartbeats 8000000 in
theorem utext_any (d : Dg) (hd : d.In) (hn : d.n < 65536) (c : Nat) (z : Int) (hzc : z = (c : Int)) (hc : c < 65536) (w : World) :
    Calls Tryd.prog 25 #[.agg #[.int .u32 d.src, .int .u32 d.dst, .bool d.plain, .string (txt d.b)], .int .u32 z] w fun e w' => e = .returned (.string (txt (hd8 d.src d.dst d.n c ++ d.b))) ∧ Below w.heap.size w w' := by
  have hx : (w.alloc (.cells #[.int .u32 d.src, .int .u32 d.dst, .bool d.plain, .string (txt d.b)] 34)).heap[w.heap.size]? = some (.cells #[.int .u32 d.src, .int .u32 d.dst, .bool d.plain, .string (txt d.b)] 34) := heap_alloc_new w _
  have hb0 := below_al (Below.refl w.heap.size w) (.cells #[.int .u32 d.src, .int .u32 d.dst, .bool d.plain, .string (txt d.b)] 34)
  have HB := Lib.hid (And.intro hb0 hb0.size)
  have h1 := hd.src
  have h2 := hd.dst
  have hl8 : d.n = 8 + d.b.length := rfl
  obtain ⟨M, hM⟩ : ∃ M : Nat, d.n = M := ⟨_, rfl⟩
  have m1 : 8 + (d.b.length : Int) = (M : Int) := by omega
  have m3 : IntKind.u32.wrap (M : Int) = (M : Int) := u32_wrapI _ (by omega) (by omega)
  have m5 : IntKind.i64.wrap (M : Int) = (M : Int) := i64_wrapI _ (by omega) (by omega)
  have hz := txt_size d.b
  have HT1 : Hid (∀ W : World, _) := fun W => refText2 d.src W (by omega)
  have HT2 : Hid (∀ W : World, _) := fun W => refText2 d.dst W (by omega)
  have HT3 : Hid (∀ W : World, _) := fun W => refText2 M W (by omega)
  have HT4 : Hid (∀ W : World, Calls Tryd.prog 38 #[.int .u32 z, .int .i64 2] W fun e w' => e = .returned (.string (txt (be2 c))) ∧ Below W.heap.size W w') := fun W => by rw [hzc]; exact refText2 c W (by omega)
  have a1 : txt (be2 d.src) ++ txt (be2 d.dst) = txt (be2 d.src ++ be2 d.dst) := txt_append _ _
  have a2 : txt (be2 d.src ++ be2 d.dst) ++ txt (be2 M) = txt (be2 d.src ++ be2 d.dst ++ be2 M) := txt_append _ _
  have a3 : txt (be2 d.src ++ be2 d.dst ++ be2 M) ++ txt (be2 c) = txt (be2 d.src ++ be2 d.dst ++ be2 M ++ be2 c) := txt_append _ _
  have a4 : txt (be2 d.src ++ be2 d.dst ++ be2 M ++ be2 c) ++ txt d.b = txt (be2 d.src ++ be2 d.dst ++ be2 M ++ be2 c ++ d.b) := txt_append _ _
  have g1 : (txt (be2 d.src)).size = 2 := txt_size _
  have g2 : (txt (be2 d.dst)).size = 2 := txt_size _
  have g3 : (txt (be2 M)).size = 2 := txt_size _
  have g4 : (txt (be2 c)).size = 2 := txt_size _
  have s2 : (txt (be2 d.src ++ be2 d.dst)).size = 4 := txt_size _
  have s3 : (txt (be2 d.src ++ be2 d.dst ++ be2 M)).size = 6 := txt_size _
  have s4 : (txt (be2 d.src ++ be2 d.dst ++ be2 M ++ be2 c)).size = 8 := txt_size _
  have s5 : ¬ 9223372036854775807 < 8 + (txt d.b).size := by rw [hz]; omega
  have hall : txt (hd8 d.src d.dst d.n c ++ d.b) = txt (be2 d.src ++ be2 d.dst ++ be2 M ++ be2 c ++ d.b) := by rw [hM]; rfl
  rw [hall]
  clear hall h1 h2 hl8 hM hd hn hzc hc hb0
  generalize txt (be2 d.src ++ be2 d.dst ++ be2 M ++ be2 c ++ d.b) = S5 at *
  generalize txt (be2 d.src ++ be2 d.dst ++ be2 M ++ be2 c) = S4 at *
  generalize txt (be2 d.src ++ be2 d.dst ++ be2 M) = S3 at *
  generalize txt (be2 d.src ++ be2 d.dst) = S2 at *
  generalize txt (be2 d.src) = T1 at *
  generalize txt (be2 d.dst) = T2 at *
  generalize txt (be2 M) = T3 at *
  generalize txt (be2 c) = T4 at *
  have HX := Lib.hid hx
  clear hx
  generalize d.b.length = L at *
  generalize txt d.b = tb at *
  go_enter Tryd.func25, Tryd.ntmps25
  go_upto_region 1 with fail
  generalize w.alloc (.cells #[.int .u32 d.src, .int .u32 d.dst, .bool d.plain, .string (tb)] 34) = W0 at *
  generalize hnn : w.heap.size = n at *
  have HNN := Lib.hid hnn
  clear hnn
  have KS : Hid (∀ W, Below W0.heap.size W0 W → W.cell? ⟨n, 0, none⟩ = some (.int .u32 d.src) ∧ W.cell? ⟨n, 1, none⟩ = some (.int .u32 d.dst) ∧ W.cell? ⟨n, 2, none⟩ = some (.bool d.plain) ∧ W.cell? ⟨n, 3, none⟩ = some (.string tb)) := fun W h => cells4 (be_block h HX.out)
  go_region_held_law (fun W => W.cell? ⟨n, 0, none⟩ = some (.int .u32 d.src) ∧ W.cell? ⟨n, 1, none⟩ = some (.int .u32 d.dst) ∧ W.cell? ⟨n, 2, none⟩ = some (.bool d.plain) ∧ W.cell? ⟨n, 3, none⟩ = some (.string tb))
    (first | assumption | exact KS.out _ (below_drew W0) | exact KS.out _ HL4.out | exact KS.out _ HL3.out | exact KS.out _ HL2.out | exact KS.out _ HL1.out)
    (first
      | (go_at_call 38; (with_reducible refine (HT1.out _).mono ?_); rintro e w2 ⟨rfl, hl⟩; (have HL1 := Lib.hid ((below_drew W0).trans hl)); clear hl)
      | (go_at_call 38; (with_reducible refine (HT2.out _).mono ?_); rintro e w3 ⟨rfl, hl⟩; (have HL2 := Lib.hid (below_to HL1.out hl HL1.out.size)); clear hl)
      | (go_at_call 38; (with_reducible refine (HT3.out _).mono ?_); rintro e w4 ⟨rfl, hl⟩; (have HL3 := Lib.hid (below_to HL2.out hl HL2.out.size)); clear hl)
      | (go_at_call 38; (with_reducible refine (HT4.out _).mono ?_); rintro e w5 ⟨rfl, hl⟩; (have HL4 := Lib.hid (below_to HL3.out hl HL3.out.size)); clear hl))
  all_goals
    go_wp2_with fail
    go_ret
    exact ⟨rfl, by rw [HNN.out]; exact below_to HB.out.1 HL4.out HB.out.2⟩
set_option maxRecDepth 100000 in
set_option maxHeartbeats 8000000 in
theorem urefBytes_plain (d : Dg) (hd : d.In) (hn : d.n ≤ 65515) (s t : Nat) (hp : d.plain = true) (w : World) :
    Calls Tryd.prog 14 #[.agg #[.int .u32 d.src, .int .u32 d.dst, .bool d.plain, .string (txt d.b)], .int .u32 (s : Int), .int .u32 (t : Int)] w fun e w' => e = .returned (.tuple #[.string (txt (d.bs s t)), .string ⟨#[]⟩]) ∧ Below w.heap.size w w' := by
  have hx : (w.alloc (.cells #[.int .u32 d.src, .int .u32 d.dst, .bool d.plain, .string (txt d.b)] 34)).heap[w.heap.size]? = some (.cells #[.int .u32 d.src, .int .u32 d.dst, .bool d.plain, .string (txt d.b)] 34) := heap_alloc_new w _
  have hb0 := below_al (Below.refl w.heap.size w) (.cells #[.int .u32 d.src, .int .u32 d.dst, .bool d.plain, .string (txt d.b)] 34)
  have HB := Lib.hid (And.intro hb0 hb0.size)
  have hl8 : d.n = 8 + d.b.length := rfl
  obtain ⟨N, hN⟩ : ∃ N : Int, ((d.n : Nat) : Int) = N := ⟨_, rfl⟩
  obtain ⟨L, hL⟩ : ∃ L : Int, ((d.b.length : Nat) : Int) = L := ⟨_, rfl⟩
  have m1 : 8 + L = N := by omega
  have m5 : IntKind.i64.wrap N = N := i64_wrapI _ (by omega) (by omega)
  have m6 : ¬ 65515 < N := by omega
  have m7 : decide (65515 < N) = false := decide_eq_false m6
  have hz : (txt d.b).size = d.b.length := txt_size d.b
  have XT : Hid (∀ W : World, _) := fun W => utext_any d hd (by omega) 0 0 rfl (by decide) W
  have hall : txt (d.bs s t) = txt (hd8 d.src d.dst d.n 0 ++ d.b) := by
    unfold Dg.bs
    rw [Dg.sum_zero.2 hp]
  rw [hall]
  clear hall
  have HP := Lib.hid hp
  have HX := Lib.hid hx
  clear hx hb0 hp hd hn hl8 hN
  generalize txt (hd8 d.src d.dst d.n 0 ++ d.b) = S at *
  generalize txt d.b = tb at *
  generalize d.b.length = LL at *
  go_enter Tryd.func14, Tryd.ntmps14
  go_upto_region 1 with fail
  generalize w.alloc (.cells #[.int .u32 d.src, .int .u32 d.dst, .bool d.plain, .string (tb)] 34) = W0 at *
  generalize hnn : w.heap.size = n at *
  have HNN := Lib.hid hnn
  clear hnn
  have KS : Hid (∀ W, Below W0.heap.size W0 W → W.cell? ⟨n, 0, none⟩ = some (.int .u32 d.src) ∧ W.cell? ⟨n, 1, none⟩ = some (.int .u32 d.dst) ∧ W.cell? ⟨n, 2, none⟩ = some (.bool d.plain) ∧ W.cell? ⟨n, 3, none⟩ = some (.string tb)) := fun W h => cells4 (be_block h HX.out)
  obtain ⟨c0, c1, c2, c3⟩ := KS.out W0 (Below.refl _ _)
  rw [HP.out] at c2
  go_wp2_with fail
  rw [HP.out] at XT
  refine (XT.out _).mono ?_
  rintro e w1 ⟨rfl, hl⟩
  have HL := Lib.hid hl
  clear hl
  go_wp2_with fail
  go_ret2
  exact ⟨rfl, by rw [HNN.out]; exact below_to HB.out.1 HL.out HB.out.2⟩
set_option maxRecDepth 100000 in
set_option maxHeartbeats 8000000 in
theorem urefBytes_sum (d : Dg) (hd : d.In) (hn : d.n ≤ 65515) (s t : Nat) (hs : s < 4294967296) (ht : t < 4294967296) (hp : d.plain = false) (w : World) :
    Calls Tryd.prog 14 #[.agg #[.int .u32 d.src, .int .u32 d.dst, .bool d.plain, .string (txt d.b)], .int .u32 (s : Int), .int .u32 (t : Int)] w fun e w' => e = .returned (.tuple #[.string (txt (d.bs s t)), .string ⟨#[]⟩]) ∧ Below w.heap.size w w' := by
  have hx : (w.alloc (.cells #[.int .u32 d.src, .int .u32 d.dst, .bool d.plain, .string (txt d.b)] 34)).heap[w.heap.size]? = some (.cells #[.int .u32 d.src, .int .u32 d.dst, .bool d.plain, .string (txt d.b)] 34) := heap_alloc_new w _
  have hb0 := below_al (Below.refl w.heap.size w) (.cells #[.int .u32 d.src, .int .u32 d.dst, .bool d.plain, .string (txt d.b)] 34)
  have HB := Lib.hid (And.intro hb0 hb0.size)
  have hl8 : d.n = 8 + d.b.length := rfl
  obtain ⟨N, hN⟩ : ∃ N : Int, ((d.n : Nat) : Int) = N := ⟨_, rfl⟩
  obtain ⟨L, hL⟩ : ∃ L : Int, ((d.b.length : Nat) : Int) = L := ⟨_, rfl⟩
  have m1 : 8 + L = N := by omega
  have m5 : IntKind.i64.wrap N = N := i64_wrapI _ (by omega) (by omega)
  have m6 : ¬ 65515 < N := by omega
  have m7 : decide (65515 < N) = false := decide_eq_false m6
  have hz : (txt d.b).size = d.b.length := txt_size d.b
  have XT : Hid (∀ W : World, _) := fun W => utext_any d hd (by omega) 0 0 rfl (by decide) W
  have XT2 : Hid (∀ W : World, _) := fun W => utext_any d hd (by omega) (d.sum s t) (d.sum s t : Int) rfl (d.sum_lt s t) W
  have XP : Hid (∀ W : World, Calls Tryd.prog 21 #[.int .u32 (s : Int), .int .u32 (t : Int), .int .u8 17, .int .i64 N] W fun e w' => e = .returned (.string (txt (psd s t 17 (d.n : Nat)))) ∧ Below W.heap.size W w') := fun W => by rw [← hN]; exact refPseudo_any s t 17 (d.n : Nat) hs ht (by decide) W
  have a1 : txt (psd s t 17 (d.n : Nat)) ++ txt (hd8 d.src d.dst d.n 0 ++ d.b) = txt (psd s t 17 (d.n : Nat) ++ (hd8 d.src d.dst d.n 0 ++ d.b)) := txt_append _ _
  have XS : Hid (∀ W : World, Calls Tryd.prog 20 #[.string (txt (psd s t 17 (d.n : Nat) ++ (hd8 d.src d.dst d.n 0 ++ d.b)))] W fun e w' => e = .returned (.int .u16 ((d.ck s t : Nat) : Int)) ∧ ∃ m, w' = W.drewN m) := fun W => refSum_any _ (by rw [List.length_append, psd_len, List.length_append, hd8_len]; omega) W
  have g1 : (txt (psd s t 17 (d.n : Nat))).size = 12 := txt_size _
  have g2 : (txt (hd8 d.src d.dst d.n 0 ++ d.b)).size = 8 + d.b.length := by rw [txt_size, List.length_append, hd8_len]
  have g3 : ¬ 9223372036854775807 < 12 + (8 + d.b.length) := by omega
  have hall : txt (d.bs s t) = txt (hd8 d.src d.dst d.n (d.sum s t) ++ d.b) := rfl
  rw [hall]
  clear hall
  have hp' : ¬ d.plain = true := by rw [hp]; decide
  have hsum : d.sum s t = if d.ck s t = 0 then 65535 else d.ck s t := by unfold Dg.sum; rw [if_neg hp']
  have hck := ck_le (psd s t 17 (d.n : Nat) ++ (hd8 d.src d.dst d.n 0 ++ d.b))
  have HCK : Hid (d.ck s t ≤ 65535 ∧ d.sum s t = if d.ck s t = 0 then 65535 else d.ck s t) := ⟨hck, hsum⟩
  have HP := Lib.hid hp
  have HX := Lib.hid hx
  clear hx hb0 hp hp' hd hn hl8 hN hsum hck hs ht
  generalize txt (psd s t 17 (d.n : Nat) ++ (hd8 d.src d.dst d.n 0 ++ d.b)) = SA at *
  generalize txt (psd s t 17 (d.n : Nat)) = SP at *
  generalize txt (hd8 d.src d.dst d.n 0 ++ d.b) = S0 at *
  generalize txt (hd8 d.src d.dst d.n (d.sum s t) ++ d.b) = S at *
  generalize txt d.b = tb at *
  generalize d.b.length = LL at *
  go_enter Tryd.func14, Tryd.ntmps14
  go_upto_region 1 with fail
  generalize w.alloc (.cells #[.int .u32 d.src, .int .u32 d.dst, .bool d.plain, .string (tb)] 34) = W0 at *
  generalize hnn : w.heap.size = n at *
  have HNN := Lib.hid hnn
  clear hnn
  have KS : Hid (∀ W, Below W0.heap.size W0 W → W.cell? ⟨n, 0, none⟩ = some (.int .u32 d.src) ∧ W.cell? ⟨n, 1, none⟩ = some (.int .u32 d.dst) ∧ W.cell? ⟨n, 2, none⟩ = some (.bool d.plain) ∧ W.cell? ⟨n, 3, none⟩ = some (.string tb)) := fun W h => cells4 (be_block h HX.out)
  obtain ⟨c0, c1, c2, c3⟩ := KS.out W0 (Below.refl _ _)
  rw [HP.out] at c2
  go_upto_region 6 with fail
  clear c0 c1 c2 c3
  go_cut [9] (fun s9 wx => s9 = .int .u32 ((d.ck s t : Nat) : Int) ∧ Below W0.heap.size W0 wx)
  case first =>
    have f1 : IntKind.u32.wrap ((d.ck s t : Nat) : Int) = ((d.ck s t : Nat) : Int) := u32_wrapI _ (by omega) (by have := HCK.out.1; omega)
    go_region_held_law (fun W => W.cell? ⟨n, 0, none⟩ = some (.int .u32 d.src) ∧ W.cell? ⟨n, 1, none⟩ = some (.int .u32 d.dst) ∧ W.cell? ⟨n, 2, none⟩ = some (.bool d.plain) ∧ W.cell? ⟨n, 3, none⟩ = some (.string tb))
      (first | assumption | exact KS.out _ (below_drew W0) | exact KS.out _ HL3.out | exact KS.out _ HL2.out | exact KS.out _ HL1.out)
      (first
        | (go_at_call 21; (with_reducible refine (XP.out _).mono ?_); rintro e w2 ⟨rfl, hl⟩; (have HL1 := Lib.hid ((below_drew W0).trans hl)); clear hl)
        | (go_at_call 25; (with_reducible refine (XT.out _).mono ?_); rintro e w3 ⟨rfl, hl⟩; (have HL2 := Lib.hid (below_to HL1.out hl HL1.out.size)); clear hl)
        | (go_at_call 20; (with_reducible refine (XS.out _).mono ?_); rintro e w4 ⟨rfl, m, hm⟩; (have HL3 : Hid (Below W0.heap.size W0 w4) := by rw [hm]; exact dr_below HL2.out m); clear hm))
    all_goals
      go_wp2_with fail
      go_meet
      exact ⟨rfl, HL3.out⟩
  obtain ⟨rfl, hl⟩ := hcut
  have HL := Lib.hid hl
  clear hl
  obtain ⟨c0, c1, c2, c3⟩ := KS.out _ HL.out
  generalize wc = w5 at *
  obtain ⟨K, hK⟩ : ∃ K : Int, ((d.ck s t : Nat) : Int) = K := ⟨_, rfl⟩
  rw [hK]
  by_cases hk : d.ck s t = 0
  · have hk1 : (K == 0) = true := by rw [← hK, hk]; rfl
    have XT3 : Hid (∀ W : World, Calls Tryd.prog 25 #[.agg #[.int .u32 d.src, .int .u32 d.dst, .bool d.plain, .string (tb)], .int .u32 65535] W fun e w' => e = .returned (.string S) ∧ Below W.heap.size W w') := fun W => by
      have h := XT2.out W
      have e1 : ((d.sum s t : Nat) : Int) = 65535 := by rw [HCK.out.2, if_pos hk]; rfl
      rwa [e1] at h
    clear hK hk XT2
    go_wp2_with fail
    refine (XT3.out _).mono ?_
    rintro e w6 ⟨rfl, hl⟩
    have HL6 := Lib.hid (below_to HL.out hl HL.out.size)
    clear hl c0 c1 c2 c3
    go_wp2_with fail
    go_ret2
    exact ⟨rfl, by rw [HNN.out]; exact below_to HB.out.1 HL6.out HB.out.2⟩
  · have hk1 : (K == 0) = false := by rw [← hK, ubeq_zero]; exact decide_eq_false hk
    have XT3 : Hid (∀ W : World, Calls Tryd.prog 25 #[.agg #[.int .u32 d.src, .int .u32 d.dst, .bool d.plain, .string (tb)], .int .u32 K] W fun e w' => e = .returned (.string S) ∧ Below W.heap.size W w') := fun W => by
      have h := XT2.out W
      have e1 : ((d.sum s t : Nat) : Int) = K := by rw [HCK.out.2, if_neg hk, hK]
      rwa [e1] at h
    clear hK hk XT2
    go_wp2_with fail
    refine (XT3.out _).mono ?_
    rintro e w6 ⟨rfl, hl⟩
    have HL6 := Lib.hid (below_to HL.out hl HL.out.size)
    clear hl c0 c1 c2 c3
    go_wp2_with fail
    go_ret2
    exact ⟨rfl, by rw [HNN.out]; exact below_to HB.out.1 HL6.out HB.out.2⟩
theorem urefBytes_any (d : Dg) (hd : d.In) (hn : d.n ≤ 65515) (s t : Nat) (hs : s < 4294967296) (ht : t < 4294967296) (w : World) :
    Calls Tryd.prog 14 #[.agg #[.int .u32 d.src, .int .u32 d.dst, .bool d.plain, .string (txt d.b)], .int .u32 (s : Int), .int .u32 (t : Int)] w fun e w' => e = .returned (.tuple #[.string (txt (d.bs s t)), .string ⟨#[]⟩]) ∧ Below w.heap.size w w' := by
  cases hp : d.plain
  · have h := urefBytes_sum d hd hn s t hs ht hp w
    rw [hp] at h
    exact h
  · have h := urefBytes_plain d hd hn s t hp w
    rw [hp] at h
    exact h
end Go.Proofs.YtikcnlcpbifobaaDoor
