/-
  What is proved: icmp.Message's Bytes by contract.
  Conditions: the message's numbers fit their types; fewer than 2^40 bytes.
-/
import Derived.Test.YtlhanaglhkmcfaaDoorIHead
import Derived.Test.YtlhanaglhkmcfaaDoorITurn
namespace Go.Proofs.YtlhanaglhkmcfaaDoor
open Go.RowKit

set_option maxRecDepth 100000 in
set_option maxHeartbeats 4000000 in
theorem iBytes_any (m : Ms) (hm : m.In) (A : Option Addr) (cap : Nat) (w : World) (hr : Rd w (.slice A m.b.length cap) m.b) :
    Calls Tryd.prog 6 #[.agg #[.int .u8 m.typ, .int .u8 m.code, .int .u32 m.rest, .slice A m.b.length cap]] w fun e w' => ∃ b, e = .returned (.slice (some ⟨b, 0, none⟩) m.bs.length m.bs.length) ∧ w.heap.size ≤ b ∧ BAt w' b m.bs ∧ Below w.heap.size w w' := by
  have HX := Lib.hid (MsAt.new w m (.slice A m.b.length cap))
  have HB := Lib.hid (below_al (Below.refl w.heap.size w) (m.obj (.slice A m.b.length cap)))
  have HD := Lib.hid hr
  have HH : Hid (∀ (c : Nat) (z : Int) (W : World), z = (c : Int) → c < 65536 → Calls Tryd.prog 14 #[.agg #[.int .u8 m.typ, .int .u8 m.code, .int .u32 m.rest, .slice A m.b.length cap], .int .u16 z] W fun e w' => ∃ b, e = .returned (.slice (some ⟨b, 0, none⟩) 8 8) ∧ W.heap.size ≤ b ∧ w'.heap[b]? = some (bytesObj (hi8 m.typ m.code c m.rest)) ∧ Below W.heap.size W w') := fun c z W hz hc => by
    subst hz
    exact ihead_any m hm A m.b.length cap c hc W
  have HS := Lib.hid m.ck_lt
  have HL := Lib.hid hm.b
  clear hm hr
  go_enter Tryd.func6, Tryd.ntmps6
  go_upto_region 1 with fail
  generalize hW : w.alloc (m.obj (.slice A m.b.length cap)) = W1 at HX HB
  unfold Ms.obj at hW
  rw [hW]
  clear hW
  have HLT : Hid (w.heap.size < W1.heap.size) := HX.out.lt
  generalize hG : w.heap.size = G at *
  have HE := Lib.hid hG
  clear hG
  have KR : Hid (∀ W', Below W1.heap.size W1 W' → Rd W' (.slice A m.b.length cap) m.b) := fun W' h => (HD.out.below (by rw [HE.out]; exact HB.out)).below h
  go_cut [3] (fun s3 wx => ∃ b, s3 = .slice (some ⟨b, 0, none⟩) 8 8 ∧ W1.heap.size ≤ b ∧ wx.heap[b]? = some (bytesObj (hi8 m.typ m.code m.ck m.rest)) ∧ Below W1.heap.size W1 wx)
  case first =>
    have X1 := Lib.hid (HH.out 0 0 W1.drew rfl (by decide))
    have KS : Hid (∀ W', Below W1.heap.size W1 W' → W'.cell? ⟨G, 0, none⟩ = some (.int .u8 m.typ) ∧ W'.cell? ⟨G, 1, none⟩ = some (.int .u8 m.code) ∧ W'.cell? ⟨G, 2, none⟩ = some (.int .u32 m.rest) ∧ W'.cell? ⟨G, 3, none⟩ = some (.slice A m.b.length cap)) := fun W' h => (HX.out.below h).cells
    go_region_held_law (fun W' => W'.cell? ⟨G, 0, none⟩ = some (.int .u8 m.typ) ∧ W'.cell? ⟨G, 1, none⟩ = some (.int .u8 m.code) ∧ W'.cell? ⟨G, 2, none⟩ = some (.int .u32 m.rest) ∧ W'.cell? ⟨G, 3, none⟩ = some (.slice A m.b.length cap))
      (first | assumption | exact KS.out _ (below_drew W1) | exact KS.out _ H4.out.2.2 | exact KS.out _ (H2.out.2.2) | exact KS.out _ (below_al H2.out.2.2 _))
      (first
        | (go_at_call 14; (with_reducible refine X1.out.mono ?_); rintro e w2 ⟨b1, rfl, h1, h2, h3⟩; (have H2 := Lib.hid (And.intro h1 (And.intro h2 ((below_drew W1).trans h3)))); clear h1 h2 h3)
        | (go_at_call 15; (with_reducible refine (Sum_two rfl (hi8_rd H2.out.2.1) (KR.out _ H2.out.2.2) (by have h1 := HL.out; rw [hi8_len]; omega)).mono ?_); rintro e w3 ⟨rfl, rfl⟩)
        | (go_at_call 14; refine (HH.out m.ck _ _ rfl HS.out).mono ?_; rintro e w4 ⟨b2, rfl, h1, h2, h3⟩; (have H4 := Lib.hid (And.intro (Nat.le_trans (below_al H2.out.2.2 _).size h1) (And.intro h2 (below_to (below_al H2.out.2.2 _) h3 (below_al H2.out.2.2 _).size)))); clear h1 h2 h3))
    all_goals
      go_wp2_with fail
      go_meet
      exact ⟨_, rfl, H4.out⟩
  obtain ⟨b, rfl, h1, h2, h3⟩ := hcut
  have HQ := Lib.hid (And.intro h1 (And.intro h2 h3))
  clear h1 h2 h3 HH
  go_upto_region 2 with fail
  generalize wc = W2 at *
  have XA := Lib.hid ((Wrt.new W2).drew.bytes (hi8 m.typ m.code m.ck m.rest) (.slice (some ⟨b, 0, none⟩) 8 8) ((hi8_rd HQ.out.2.1).below (vbelow_dr (below_al (Below.refl _ _) _))) (by rw [hi8_len]; decide))
  have KS : Hid (∀ W', Below W2.heap.size W2 W' → W'.cell? ⟨G, 3, none⟩ = some (.slice A m.b.length cap)) := fun W' h => ((HX.out.below HQ.out.2.2).below h).cells.2.2.2
  have KR2 : Hid (∀ W', Below W2.heap.size W2 W' → Rd W' (.slice A m.b.length cap) m.b) := fun W' h => KR.out _ (below_to HQ.out.2.2 h HQ.out.2.2.size)
  go_region_held_law (fun W' => W'.cell? ⟨G, 3, none⟩ = some (.slice A m.b.length cap))
    (first | assumption | exact KS.out _ (below_drew W2) | exact KS.out _ (below_al (below_drew W2) _) | exact KS.out _ H5.out.2.2 | exact KS.out _ H4.out.old | exact KS.out _ H3.out.old)
    (first
      | (go_at_call 16; (with_reducible refine XA.out.mono ?_); rintro e w3 ⟨rfl, h3⟩; (have H3 := Lib.hid h3); clear h3)
      | (go_at_call 16; (with_reducible refine (H3.out.bytes m.b _ (KR2.out _ H3.out.old) (by have h1 := HL.out; simp [hi8_len]; omega)).mono ?_); rintro e w4 ⟨rfl, h4⟩; (have H4 := Lib.hid h4); clear h4)
      | (go_at_call 17; refine (H4.out.finish (by have h1 := HL.out; simp [hi8_len]; omega)).mono ?_; rintro e w5 ⟨b5, rfl, h5, h6, h7⟩; (have H5 := Lib.hid (And.intro h5 (And.intro h6 h7))); clear h5 h6 h7))
  all_goals
    go_wp2_with fail
    go_ret
    have hl : W1.heap.size ≤ b5 := Nat.le_trans HQ.out.2.2.size H5.out.1
    have hlt := HLT.out
    have hb := below_to HB.out (below_to HQ.out.2.2 H5.out.2.2 HQ.out.2.2.size) (Nat.le_of_lt hlt)
    refine ⟨b5, ?_, ?_, H5.out.2.1, ?_⟩
    · simp [Ms.bs]
    · rw [HE.out]; omega
    · rw [HE.out]; exact hb
end Go.Proofs.YtlhanaglhkmcfaaDoor
