/-
  What is proved: udp's check and told by contract: a datagram's sum, its bytes, the panic where it is too large.
  Conditions: the datagram's numbers fit their types.
-/
import Derived.Test.YtikcnlcpbifobaaDoorUHead
namespace Go.Proofs.YtikcnlcpbifobaaDoor
open Go.RowKit

theorem uhead_z (d : Dg) (hd : d.In) (hn : d.n < 65536) (A : Option Addr) (cap c : Nat) (z : Int) (hz : z = (c : Int)) (hc : c < 65536) (w : World) :
    Calls Tryd.prog 41 #[.agg #[.int .u16 d.src, .int .u16 d.dst, .bool d.plain, .slice A d.b.length cap], .int .u16 z] w fun e w' => ∃ b, e = .returned (.slice (some ⟨b, 0, none⟩) 8 8) ∧ w.heap.size ≤ b ∧ w'.heap[b]? = some (bytesObj (hd8 d.src d.dst d.n c)) ∧ Below w.heap.size w w' := by
  subst hz
  exact uhead_any d hd hn A cap c hc w
theorem dgsize_f (d : Dg) (A : Option Addr) (c : Nat) (hn : d.b.length ≤ 1099511627776) (w : World) :
    Calls Tryd.prog 40 #[.agg #[.int .u16 d.src, .int .u16 d.dst, .bool d.plain, .slice A d.b.length c]] w fun e w' => e = .returned (.int .i64 ((d.n : Nat) : Int)) ∧ Below w.heap.size w w' :=
  (dgsize_any d A c hn w).mono fun e w' ⟨he, hw⟩ => ⟨he, by subst hw; exact below_al (Below.refl _ _) _⟩
theorem ahead_f (s t : Nat) (n : Nat) (w : World) :
    Calls Tryd.prog 34 #[.int .u32 (s : Int), .int .u32 (t : Int), .int .i64 (n : Int)] w fun e w' => ∃ b, e = .returned (.slice (some ⟨b, 0, none⟩) 12 12) ∧ w'.heap[b]? = some (bytesObj (psd s t 17 (n : Nat))) ∧ Below w.heap.size w w' :=
  (ahead_any s t n w).mono fun e w' ⟨he, hw⟩ => ⟨_, he, by subst hw; exact bytesObj_new _ _, by subst hw; exact below_al (Below.refl _ _) _⟩
theorem ubeq_zero (n : Nat) : (((n : Nat) : Int) == 0) = decide (n = 0) := by by_cases h : n = 0 <;> simp [h]
set_option maxRecDepth 100000 in
set_option maxHeartbeats 4000000 in
theorem ucheck_any (d : Dg) (hd : d.In) (hn : d.n < 65536) (A : Option Addr) (cap : Nat) (s t : Nat) (w : World) (hr : Rd w (.slice A d.b.length cap) d.b) :
    Calls Tryd.prog 42 #[.agg #[.int .u16 d.src, .int .u16 d.dst, .bool d.plain, .slice A d.b.length cap], .int .u32 (s : Int), .int .u32 (t : Int)] w fun e w' => e = .returned (.int .u16 ((d.sum s t : Nat) : Int)) ∧ Below w.heap.size w w' := by
  have HX := Lib.hid (DgAt.new w d (.slice A d.b.length cap))
  have HB := Lib.hid (below_al (Below.refl w.heap.size w) (d.obj (.slice A d.b.length cap)))
  by_cases hp : d.plain = true
  · have hs : d.sum s t = 0 := by unfold Dg.sum; rw [if_pos hp]
    rw [hs]
    have KX := HX.out.cells
    rw [hp] at KX
    unfold Dg.obj at HB KX
    rw [hp] at HB KX ⊢
    obtain ⟨c0, c1, c2, c3⟩ := KX
    clear HX hp hs
    go_enter Tryd.func42, Tryd.ntmps42
    go_wp2_with fail
    go_ret
    exact ⟨rfl, HB.out⟩
  · have hp' : d.plain = false := by simpa using hp
    have hs : d.sum s t = if d.ck s t = 0 then 65535 else d.ck s t := by unfold Dg.sum; rw [if_neg hp]
    have HD := Lib.hid hr
    have HS : Hid (∀ W, _) := fun W => dgsize_f d A cap hd.b W
    have HH : Hid (∀ W, _) := fun W => uhead_z d hd hn A cap 0 0 rfl (by decide) W
    have HA : Hid (∀ W, _) := fun W => ahead_f s t d.n W
    have HN : Hid (d.b.length ≤ 65535) := by have : d.n = 8 + d.b.length := rfl; show _ ≤ _; omega
    rw [hs]
    unfold Dg.ck
    generalize hq : (if ck (psd s t 17 (d.n : Nat) ++ (hd8 d.src d.dst d.n 0 ++ d.b)) = 0 then 65535 else ck (psd s t 17 (d.n : Nat) ++ (hd8 d.src d.dst d.n 0 ++ d.b))) = q
    have HQ := Lib.hid hq
    clear hq
    have HPF := Lib.hid hp'
    clear hd hn hr hs hp hp'
    go_enter Tryd.func42, Tryd.ntmps42
    go_upto_region 1 with fail
    generalize hW : w.alloc (d.obj (.slice A d.b.length cap)) = W at HX HB
    unfold Dg.obj at hW
    rw [hW]
    clear hW
    have HG : Hid (w.heap.size < W.heap.size) := HX.out.lt
    have KR : Hid (∀ W', Below W.heap.size W W' → Rd W' (.slice A d.b.length cap) d.b) := fun W' h => HD.out.below (below_to HB.out h HB.out.size)
    generalize hG : w.heap.size = G at *
    have HE := Lib.hid hG
    clear hG HD
    obtain ⟨c0, c1, c2, c3⟩ := HX.out.cells
    rw [HPF.out] at c2
    go_upto_region 3 with fail
    clear c0 c1 c2 c3
    go_cut [7] (fun s7 wx => s7 = .int .u16 ((ck (psd s t 17 (d.n : Nat) ++ (hd8 d.src d.dst d.n 0 ++ d.b)) : Nat) : Int) ∧ Below W.heap.size W wx)
    case first =>
      have KS : Hid (∀ W', Below W.heap.size W W' → W'.cell? ⟨G, 0, none⟩ = some (.int .u16 d.src) ∧ W'.cell? ⟨G, 1, none⟩ = some (.int .u16 d.dst) ∧ W'.cell? ⟨G, 2, none⟩ = some (.bool d.plain) ∧ W'.cell? ⟨G, 3, none⟩ = some (.slice A d.b.length cap)) := fun W' h => (HX.out.below h).cells
      go_region_held_law (fun W' => W'.cell? ⟨G, 0, none⟩ = some (.int .u16 d.src) ∧ W'.cell? ⟨G, 1, none⟩ = some (.int .u16 d.dst) ∧ W'.cell? ⟨G, 2, none⟩ = some (.bool d.plain) ∧ W'.cell? ⟨G, 3, none⟩ = some (.slice A d.b.length cap))
        (first | assumption | exact KS.out _ H3.out.2.2 | exact KS.out _ H2.out.2 | exact KS.out _ H1.out | exact KS.out _ (below_drew W) | exact KS.out _ (below_al H3.out.2.2 _))
        (first
          | (go_at_call 40; (with_reducible refine (HS.out _).mono ?_); rintro e w1 ⟨rfl, h1⟩; (have H1 := Lib.hid ((below_drew W).trans h1)); clear h1)
          | (go_at_call 34; (with_reducible refine (HA.out _).mono ?_); rintro e w2 ⟨b2, rfl, h1, h2⟩; (have H2 := Lib.hid (And.intro h1 (below_to H1.out h2 H1.out.size))); clear h1 h2)
          | (go_at_call 41; (with_reducible refine (HH.out _).mono ?_); rintro e w3 ⟨b3, rfl, h1, h2, h3⟩; (have H3 := Lib.hid (And.intro (be_block h3 H2.out.1) (And.intro h2 (below_to H2.out.2 h3 H2.out.2.size)))); clear h1 h2 h3)
          | (go_at_call 51; refine (Sum_three rfl (Rd.of_obj (c := 12) H3.out.1 (Nat.le_refl _)) (hd8_rd H3.out.2.1) (KR.out _ H3.out.2.2) (by have := HN.out; simp [psd_len, hd8_len]; omega)).mono ?_; rintro e w4 ⟨rfl, rfl⟩))
      all_goals
        go_wp2_with fail
        go_meet
        exact ⟨rfl, below_al H3.out.2.2 _⟩
    obtain ⟨rfl, h3⟩ := hcut
    have H3 := Lib.hid (below_to HB.out h3 (Nat.le_of_lt HG.out))
    clear h3
    generalize ck (psd s t 17 (d.n : Nat) ++ (hd8 d.src d.dst d.n 0 ++ d.b)) = k at *
    obtain ⟨K, hK⟩ : ∃ K : Int, (k : Int) = K := ⟨_, rfl⟩
    rw [hK]
    by_cases hk : k = 0
    · have hk1 : (K == 0) = true := by rw [← hK, hk]; rfl
      have hq := Lib.hid (show q = 65535 by rw [← HQ.out, if_pos hk])
      clear hK hk HQ
      go_wp2_with fail
      go_ret
      exact ⟨by rw [hq.out]; rfl, by rw [HE.out]; exact H3.out⟩
    · have hk1 : (K == 0) = false := by rw [← hK, ubeq_zero]; exact decide_eq_false hk
      have hq : (q : Int) = K := by rw [← HQ.out, if_neg hk, hK]
      have HQ2 := Lib.hid hq
      clear hK hk HQ hq
      go_wp2_with fail
      go_ret
      exact ⟨congrArg (fun z => Ending.returned (Value.int .u16 z)) HQ2.out.symm, by rw [HE.out]; exact H3.out⟩
set_option maxRecDepth 100000 in
set_option maxHeartbeats 4000000 in
theorem utold_big (d : Dg) (hd : d.In) (hn : 65515 < d.n) (A : Option Addr) (cap : Nat) (s t : Nat) (w : World) :
    Calls Tryd.prog 24 #[.agg #[.int .u16 d.src, .int .u16 d.dst, .bool d.plain, .slice A d.b.length cap], .int .u32 (s : Int), .int .u32 (t : Int)] w fun e w' => e = .panicked [{ v := wrongIface 44 (.int .i64 7), recovered := false }] ∧ Below w.heap.size w w' := by
  have HX := Lib.hid (DgAt.new w d (.slice A d.b.length cap))
  have HB := Lib.hid (below_al (Below.refl w.heap.size w) (d.obj (.slice A d.b.length cap)))
  have HS : Hid (∀ W, _) := fun W => dgsize_f d A cap hd.b W
  have hle : decide (((d.n : Nat) : Int) ≤ 65515) = false := decide_eq_false (by omega)
  have hlt : (65515 : Int) < ((d.n : Nat) : Int) := by omega
  clear hd hn
  generalize ((d.n : Nat) : Int) = N at *
  go_enter Tryd.func24, Tryd.ntmps24
  go_upto_region 1 with fail
  generalize hW : w.alloc (d.obj (.slice A d.b.length cap)) = W at HX HB
  unfold Dg.obj at hW
  rw [hW]
  clear hW
  obtain ⟨c0, c1, c2, c3⟩ := HX.out.cells
  go_wp2_with fail
  refine (HS.out _).mono ?_
  rintro e w1 ⟨rfl, h1⟩
  have H1 := Lib.hid (below_to HB.out h1 HB.out.size)
  clear h1 c0 c1 c2 c3 HX HB HS
  go_wp2_with fail
  refine (mustBe_bad 7 _).mono ?_
  rintro e w2 ⟨rfl, rfl⟩
  go_wp2_with fail
  exact ⟨rfl, rfl, H1.out⟩
set_option maxRecDepth 100000 in
set_option maxHeartbeats 4000000 in
theorem utold_ok (d : Dg) (hd : d.In) (hn : d.n ≤ 65515) (A : Option Addr) (cap : Nat) (s t : Nat) (w : World) (hr : Rd w (.slice A d.b.length cap) d.b) :
    Calls Tryd.prog 24 #[.agg #[.int .u16 d.src, .int .u16 d.dst, .bool d.plain, .slice A d.b.length cap], .int .u32 (s : Int), .int .u32 (t : Int)] w fun e w' => ∃ b, e = .returned (.slice (some ⟨b, 0, none⟩) d.n d.n) ∧ w.heap.size ≤ b ∧ w'.heap[b]? = some (bytesObj (d.bs s t)) ∧ Below w.heap.size w w' := by
  have HX := Lib.hid (DgAt.new w d (.slice A d.b.length cap))
  have HB := Lib.hid (below_al (Below.refl w.heap.size w) (d.obj (.slice A d.b.length cap)))
  have HD := Lib.hid hr
  have HS : Hid (∀ W, _) := fun W => dgsize_f d A cap hd.b W
  have HC : Hid (∀ W, Rd W (.slice A d.b.length cap) d.b → _) := fun W hr => ucheck_any d hd (by omega) A cap s t W hr
  have HH : Hid (∀ W, _) := fun W => uhead_any d hd (by omega) A cap (d.sum s t) (d.sum_lt s t) W
  have hle : decide (((d.n : Nat) : Int) ≤ 65515) = true := decide_eq_true (by omega)
  have hle2 : ((d.n : Nat) : Int) ≤ 65515 := by omega
  have HN : Hid (d.b.length ≤ 65535) := by have : d.n = 8 + d.b.length := rfl; show _ ≤ _; omega
  have HNN : Hid ((hd8 d.src d.dst d.n (d.sum s t)).length + d.b.length = d.n) := rfl
  have HBS : Hid (d.bs s t = hd8 d.src d.dst d.n (d.sum s t) ++ d.b) := rfl
  have HBL : Hid ((d.bs s t).length = d.n) := d.bs_len s t
  generalize d.bs s t = bs at *
  clear hd hn hr
  generalize hh8 : hd8 d.src d.dst d.n (d.sum s t) = h8 at *
  have H8L : Hid (h8.length = 8) := by rw [← hh8]; rfl
  have H8R : Hid (∀ (W : World) (b : Nat), W.heap[b]? = some (bytesObj h8) → Rd W (.slice (some ⟨b, 0, none⟩) 8 8) h8) := fun W b h => by
    have := Rd.of_obj (c := 8) h (by rw [H8L.out]; exact Nat.le_refl _)
    rwa [H8L.out] at this
  clear hh8
  generalize d.sum s t = S at *
  generalize ((d.n : Nat) : Int) = N at *
  go_enter Tryd.func24, Tryd.ntmps24
  go_upto_region 1 with fail
  generalize hW : w.alloc (d.obj (.slice A d.b.length cap)) = W at HX HB
  unfold Dg.obj at hW
  rw [hW]
  clear hW
  have HG : Hid (w.heap.size < W.heap.size) := HX.out.lt
  have KR : Hid (∀ W', Below W.heap.size W W' → Rd W' (.slice A d.b.length cap) d.b) := fun W' h => HD.out.below (below_to HB.out h HB.out.size)
  generalize hG : w.heap.size = G at *
  have HE := Lib.hid hG
  clear hG HD
  obtain ⟨c0, c1, c2, c3⟩ := HX.out.cells
  go_wp2_with fail
  refine (HS.out _).mono ?_
  rintro e w1 ⟨rfl, h1⟩
  have HX1 := Lib.hid (HX.out.below h1)
  have HB1 := Lib.hid (below_to HB.out h1 (Nat.le_of_lt HG.out))
  have KR1 : Hid (∀ W', Below w1.heap.size w1 W' → Rd W' (.slice A d.b.length cap) d.b) := fun W' h => KR.out _ (below_to h1 h h1.size)
  have HG1 : Hid (G < w1.heap.size) := HX1.out.lt
  clear h1 c0 c1 c2 c3 HX HB HS KR HG
  go_wp2_with fail
  refine (mustBe_ok 7 _).mono ?_
  rintro e w2 ⟨rfl, rfl⟩
  clear hle hle2
  go_upto_region 2 with fail
  go_cut [7] (fun s7 wx => ∃ b, s7 = .slice (some ⟨b, 0, none⟩) 8 8 ∧ w1.heap.size ≤ b ∧ wx.heap[b]? = some (bytesObj h8) ∧ Below w1.heap.size w1 wx)
  case first =>
    have KS : Hid (∀ W', Below w1.heap.size w1 W' → W'.cell? ⟨G, 0, none⟩ = some (.int .u16 d.src) ∧ W'.cell? ⟨G, 1, none⟩ = some (.int .u16 d.dst) ∧ W'.cell? ⟨G, 2, none⟩ = some (.bool d.plain) ∧ W'.cell? ⟨G, 3, none⟩ = some (.slice A d.b.length cap)) := fun W' h => (HX1.out.below h).cells
    have X1 := Lib.hid (HC.out w1.drew (KR1.out _ (below_drew w1)))
    go_region_held_law (fun W' => W'.cell? ⟨G, 0, none⟩ = some (.int .u16 d.src) ∧ W'.cell? ⟨G, 1, none⟩ = some (.int .u16 d.dst) ∧ W'.cell? ⟨G, 2, none⟩ = some (.bool d.plain) ∧ W'.cell? ⟨G, 3, none⟩ = some (.slice A d.b.length cap))
      (first | assumption | exact KS.out _ H3.out.2.2 | exact KS.out _ H2.out | exact KS.out _ (below_drew w1))
      (first
        | (go_at_call 42; (with_reducible refine X1.out.mono ?_); rintro e w2 ⟨rfl, h1⟩; (have H2 := Lib.hid ((below_drew w1).trans h1)); clear h1)
        | (go_at_call 41; (with_reducible refine (HH.out _).mono ?_); rintro e w3 ⟨b3, rfl, h1, h2, h3⟩; (have H3 := Lib.hid (And.intro (Nat.le_trans H2.out.size h1) (And.intro h2 (below_to H2.out h3 H2.out.size)))); clear h1 h2 h3))
    all_goals
      go_wp2_with fail
      go_meet
      exact ⟨_, rfl, H3.out⟩
  obtain ⟨b, rfl, h1, h2, h3⟩ := hcut
  have HQ := Lib.hid (And.intro h1 (And.intro h2 h3))
  clear h1 h2 h3 HH HC
  go_upto_region 3 with fail
  generalize wc = W2 at *
  have XA := Lib.hid ((Wrt.new W2).drew.bytes h8 (.slice (some ⟨b, 0, none⟩) 8 8) ((H8R.out _ _ HQ.out.2.1).below (vbelow_dr (below_al (Below.refl _ _) _))) (by rw [H8L.out]; decide))
  have KS : Hid (∀ W', Below W2.heap.size W2 W' → W'.cell? ⟨G, 3, none⟩ = some (.slice A d.b.length cap)) := fun W' h => ((HX1.out.below HQ.out.2.2).below h).cells.2.2.2
  have KR2 : Hid (∀ W', Below W2.heap.size W2 W' → Rd W' (.slice A d.b.length cap) d.b) := fun W' h => KR1.out _ (below_to HQ.out.2.2 h HQ.out.2.2.size)
  go_region_held_law (fun W' => W'.cell? ⟨G, 3, none⟩ = some (.slice A d.b.length cap))
    (first | assumption | exact KS.out _ (below_drew W2) | exact KS.out _ (below_al (below_drew W2) _) | exact KS.out _ H5.out.2.2 | exact KS.out _ H4.out.old | exact KS.out _ H3.out.old)
    (first
      | (go_at_call 43; (with_reducible refine XA.out.mono ?_); rintro e w3 ⟨rfl, h3⟩; (have H3 := Lib.hid h3); clear h3)
      | (go_at_call 43; (with_reducible refine (H3.out.bytes d.b _ (KR2.out _ H3.out.old) (by have h1 := HN.out; have h2 := H8L.out; simp [h2]; omega)).mono ?_); rintro e w4 ⟨rfl, h4⟩; (have H4 := Lib.hid h4); clear h4)
      | (go_at_call 44; refine (H4.out.finish (by have h1 := HN.out; have h2 := H8L.out; simp [h2]; omega)).mono ?_; rintro e w5 ⟨b5, rfl, h5, h6, h7⟩; (have H5 := Lib.hid (And.intro h5 (And.intro h6 h7))); clear h5 h6 h7))
  all_goals
    go_wp2_with fail
    go_ret
    have hl : w1.heap.size ≤ b5 := Nat.le_trans HQ.out.2.2.size H5.out.1
    have hlt := HG1.out
    have hb := below_to HB1.out (below_to HQ.out.2.2 H5.out.2.2 HQ.out.2.2.size) (Nat.le_of_lt hlt)
    have hnn := HNN.out
    refine ⟨b5, ?_, ?_, ?_, ?_⟩
    · simp [hnn]
    · rw [HE.out]; omega
    · rw [HBS.out]; exact H5.out.2.1
    · rw [HE.out]; exact hb
end Go.Proofs.YtikcnlcpbifobaaDoor
