/-
  What is proved: gre's head by contract: the bytes ahead of a frame, with any sum.
  Conditions: the header's numbers fit their types.
-/
import Derived.Test.YtjnhfabgdegngaaDoorGrMem
namespace Go.Proofs.YtjnhfabgdegngaaDoor
open Go.RowKit

theorem grbe2_len (n : Nat) : (be2 n).length = 2 := rfl
theorem grbe4_len (n : Nat) : (be4 n).length = 4 := rfl
theorem grfirst_len (h : GH) : h.first.length = 4 := rfl
theorem GH.sum_le (h : GH) (c : Nat) : (h.sumBytes c).length ≤ 4 := by unfold GH.sumBytes; split <;> simp [grbe2_len]
theorem GH.key_le (h : GH) : h.keyBytes.length ≤ 4 := by unfold GH.keyBytes; split <;> simp [grbe4_len]
theorem GH.seq_le (h : GH) : h.seqBytes.length ≤ 4 := by unfold GH.seqBytes; split <;> simp [grbe4_len]
set_option maxRecDepth 100000 in
set_option maxHeartbeats 4000000 in
theorem grhead_any (h : GH) (hf : h.Fit) (c : Nat) (hc : c < 65536) (w : World) : Calls Tryd.prog 16 #[.agg #[.bool h.s, .bool h.k, .int .u32 (h.key : Int), .bool h.q, .int .u32 (h.seq : Int)], .int .u16 (c : Int)] w fun e w' =>
    ∃ b, e = .returned (.slice (some ⟨b, 0, none⟩) h.at h.at) ∧ w.heap.size ≤ b ∧ w'.heap[b]? = some (bytesObj (h.bytes c)) ∧ Below w.heap.size w w' := by
  have HX := Lib.hid (GBox.new w h)
  have HB := Lib.hid (gbelow_al (Below.refl w.heap.size w) h.obj)
  have HFl : Hid (∀ W, _) := fun W => grflags_any h W
  have HP := Lib.hid hf
  have HC : Hid (c < 65536) := hc
  have HN := Lib.hid (And.intro (h.sum_le c) (And.intro h.key_le h.seq_le))
  have HL := Lib.hid (h.bytes_len c)
  clear hf hc
  go_enter Tryd.func16, Tryd.ntmps16
  go_upto_region 1 with fail
  generalize hW : w.alloc h.obj = W at HX HB
  unfold GH.obj GH.row at hW
  rw [hW]
  clear hW
  have HG : Hid (w.heap.size < W.heap.size) := HX.out.lt
  generalize hG : w.heap.size = G at *
  have HE := Lib.hid hG
  clear hG
  go_cut [5] (fun s5 wx => ∃ q, s5 = .pointer (some ⟨q, 0, none⟩) ∧ Wrt W q h.first wx)
  case first =>
    have H0 := Lib.hid (Wrt.new W)
    obtain ⟨c0, c1, c2, c3, c4⟩ := (HX.out.below ((Below.refl _ _).alloc (Nat.le_refl _) (.cells #[.slice none 0 0] 56))).cells
    go_wp2_with fail
    refine (HFl.out _).mono ?_
    rintro e w1 ⟨rfl, h1⟩
    have H1 := Lib.hid (H0.out.below h1)
    clear h1
    go_wp2_with fail
    refine (H1.out.u16 h.flags h.flags_lt (by decide)).mono ?_
    rintro e w2 ⟨rfl, h2⟩
    have H2 := Lib.hid h2
    clear h2
    go_wp2_with fail
    refine (H2.out.u16i 25944 25944 rfl (by decide) (by simp [grbe2_len])).mono ?_
    rintro e w3 ⟨rfl, h3⟩
    have H3 := Lib.hid h3
    clear h3
    go_wp2_with fail
    go_meet
    exact ⟨_, rfl, H3.out⟩
  obtain ⟨q, rfl, h1⟩ := hcut
  have H1 := Lib.hid h1
  clear h1
  obtain ⟨b, hb, c0, c2, c4⟩ : ∃ b, Hid (h.s = b) ∧ wc.cell? ⟨G, 0, none⟩ = some (.bool b) ∧ wc.cell? ⟨G, 2, none⟩ = some (.int .u32 (h.key : Int)) ∧ wc.cell? ⟨G, 4, none⟩ = some (.int .u32 (h.seq : Int)) := ⟨h.s, rfl, (HX.out.below H1.out.old).c0, (HX.out.below H1.out.old).c2, (HX.out.below H1.out.old).c4⟩
  go_upto_if 12 with fail
  go_cut [] (fun wx => Wrt W q (h.first ++ h.sumBytes c) wx)
  case first =>
    cases b
    rotate_left
    · have hs : h.s = true := hb.out
      clear c0
      have HS : Hid (∀ wx, Wrt W q (h.first ++ be2 c ++ be2 0) wx → Wrt W q (h.first ++ h.sumBytes c) wx) := fun wx k => by unfold GH.sumBytes; rw [if_pos hs, ← List.append_assoc]; exact k
      clear hs
      go_wp2_with fail
      refine (H1.out.u16 c HC.out (by simp [grfirst_len])).mono ?_
      rintro e w2 ⟨rfl, h2⟩
      have H2 := Lib.hid h2
      clear h2
      go_wp2_with fail
      refine (H2.out.u16i 0 0 rfl (by decide) (by simp [grfirst_len, grbe2_len])).mono ?_
      rintro e w3 ⟨rfl, h3⟩
      have H3 := Lib.hid (HS.out _ h3)
      clear h3
      go_wp2_with fail
      go_meet
      exact H3.out
    · have hs : ¬ h.s = true := by rw [hb.out]; decide
      clear c0
      have H3 : Hid (Wrt W q (h.first ++ h.sumBytes c) wc) := by unfold GH.sumBytes; rw [if_neg hs, List.append_nil]; exact H1.out
      clear hs
      go_wp2_with fail
      go_meet
      exact H3.out
  have H2 := Lib.hid hcut
  clear hcut H1 c0 c2 c4 hb
  obtain ⟨b, hb, c0, c2, c4⟩ : ∃ b, Hid (h.k = b) ∧ wc.cell? ⟨G, 1, none⟩ = some (.bool b) ∧ wc.cell? ⟨G, 2, none⟩ = some (.int .u32 (h.key : Int)) ∧ wc.cell? ⟨G, 4, none⟩ = some (.int .u32 (h.seq : Int)) := ⟨h.k, rfl, (HX.out.below H2.out.old).c1, (HX.out.below H2.out.old).c2, (HX.out.below H2.out.old).c4⟩
  go_upto_if 18 with fail
  go_cut [] (fun wx => Wrt W q (h.first ++ h.sumBytes c ++ h.keyBytes) wx)
  case first =>
    cases b
    rotate_left
    · have hs : h.k = true := hb.out
      clear c0
      have HS : Hid (∀ wx, Wrt W q (h.first ++ h.sumBytes c ++ be4 h.key) wx → Wrt W q (h.first ++ h.sumBytes c ++ h.keyBytes) wx) := fun wx k => by unfold GH.keyBytes; rw [if_pos hs]; exact k
      clear hs
      go_wp2_with fail
      refine (H2.out.u32 h.key HP.out.key (by have := HN.out.1; simp [grfirst_len]; omega)).mono ?_
      rintro e w3 ⟨rfl, h3⟩
      have H3 := Lib.hid (HS.out _ h3)
      clear h3
      go_wp2_with fail
      go_meet
      exact H3.out
    · have hs : ¬ h.k = true := by rw [hb.out]; decide
      clear c0
      have H3 : Hid (Wrt W q (h.first ++ h.sumBytes c ++ h.keyBytes) wc) := by unfold GH.keyBytes; rw [if_neg hs, List.append_nil]; exact H2.out
      clear hs
      go_wp2_with fail
      go_meet
      exact H3.out
  have H3 := Lib.hid hcut
  clear hcut H2 c0 c2 c4 hb
  obtain ⟨b, hb, c0, c2, c4⟩ : ∃ b, Hid (h.q = b) ∧ wc.cell? ⟨G, 3, none⟩ = some (.bool b) ∧ wc.cell? ⟨G, 2, none⟩ = some (.int .u32 (h.key : Int)) ∧ wc.cell? ⟨G, 4, none⟩ = some (.int .u32 (h.seq : Int)) := ⟨h.q, rfl, (HX.out.below H3.out.old).c3, (HX.out.below H3.out.old).c2, (HX.out.below H3.out.old).c4⟩
  go_upto_if 24 with fail
  go_cut [] (fun wx => Wrt W q (h.bytes c) wx)
  case first =>
    cases b
    rotate_left
    · have hs : h.q = true := hb.out
      clear c0
      have HS : Hid (∀ wx, Wrt W q (h.first ++ h.sumBytes c ++ h.keyBytes ++ be4 h.seq) wx → Wrt W q (h.bytes c) wx) := fun wx k => by unfold GH.bytes GH.seqBytes; rw [if_pos hs]; exact k
      clear hs
      go_wp2_with fail
      refine (H3.out.u32 h.seq HP.out.seq (by have := HN.out.1; have := HN.out.2.1; simp [grfirst_len]; omega)).mono ?_
      rintro e w4 ⟨rfl, h4⟩
      have H4 := Lib.hid (HS.out _ h4)
      clear h4
      go_wp2_with fail
      go_meet
      exact H4.out
    · have hs : ¬ h.q = true := by rw [hb.out]; decide
      clear c0
      have H4 : Hid (Wrt W q (h.bytes c) wc) := by unfold GH.bytes GH.seqBytes; rw [if_neg hs, List.append_nil]; exact H3.out
      clear hs
      go_wp2_with fail
      go_meet
      exact H4.out
  have H4 := Lib.hid hcut
  clear hcut H3 c0 c2 c4 hb
  go_wp2_with fail
  refine (H4.out.finish (by rw [HL.out]; have := h.at_le; omega)).mono ?_
  rintro e w5 ⟨b, he, h6, h7, h8⟩
  rw [HL.out] at he
  subst he
  have H6 := Lib.hid (And.intro h6 (And.intro h7 h8))
  clear h6 h7 h8
  go_wp2_with fail
  go_ret
  obtain rfl := HE.out
  exact ⟨b, rfl, by have h1 := H6.out.1; have h2 := HG.out; omega, H6.out.2.1, below_to HB.out H6.out.2.2 (Nat.le_of_lt HG.out)⟩
end Go.Proofs.YtjnhfabgdegngaaDoor
