/-
  What is proved: icmp's head (the first eight bytes of a message) by contract.
  Conditions: the message's numbers fit their types.
-/
import Derived.Test.YtlhanaglhkmcfaaDoorIMsg
namespace Go.Proofs.YtlhanaglhkmcfaaDoor
open Go.RowKit

set_option maxRecDepth 100000 in
set_option maxHeartbeats 4000000 in
theorem ihead_any (m : Ms) (hm : m.In) (A : Option Addr) (n cap c : Nat) (hc : c < 65536) (w : World) :
    Calls Tryd.prog 14 #[.agg #[.int .u8 m.typ, .int .u8 m.code, .int .u32 m.rest, .slice A n cap], .int .u16 (c : Int)] w fun e w' => ∃ b, e = .returned (.slice (some ⟨b, 0, none⟩) 8 8) ∧ w.heap.size ≤ b ∧ w'.heap[b]? = some (bytesObj (hi8 m.typ m.code c m.rest)) ∧ Below w.heap.size w w' := by
  have HX := Lib.hid (MsAt.new w m (.slice A n cap))
  have HB := Lib.hid (below_al (Below.refl w.heap.size w) (m.obj (.slice A n cap)))
  have HP := Lib.hid hm
  have HC : Hid (c < 65536) := hc
  clear hm hc
  go_enter Tryd.func14, Tryd.ntmps14
  go_upto_region 1 with fail
  generalize hW : w.alloc (m.obj (.slice A n cap)) = W at HX HB
  unfold Ms.obj at hW
  rw [hW]
  clear hW
  have HG : Hid (w.heap.size < W.heap.size) := HX.out.lt
  generalize hG : w.heap.size = G at *
  have HE := Lib.hid hG
  clear hG
  have XA := Lib.hid ((Wrt.new W).drew.u8 m.typ HP.out.typ (by decide))
  have KS : Hid (∀ W', Below W.heap.size W W' → W'.cell? ⟨G, 0, none⟩ = some (.int .u8 m.typ) ∧ W'.cell? ⟨G, 1, none⟩ = some (.int .u8 m.code) ∧ W'.cell? ⟨G, 2, none⟩ = some (.int .u32 m.rest)) := fun W' h => ⟨(HX.out.below h).cells.1, (HX.out.below h).cells.2.1, (HX.out.below h).cells.2.2.1⟩
  go_region_held_law (fun W' => W'.cell? ⟨G, 0, none⟩ = some (.int .u8 m.typ) ∧ W'.cell? ⟨G, 1, none⟩ = some (.int .u8 m.code) ∧ W'.cell? ⟨G, 2, none⟩ = some (.int .u32 m.rest))
    (first | assumption | exact KS.out _ H5.out.2.2 | exact KS.out _ H4.out.old | exact KS.out _ H3.out.old | exact KS.out _ H2.out.old | exact KS.out _ H1.out.old | exact KS.out _ (below_drew W) | exact KS.out _ (below_al (below_drew W) _))
    (first
      | (go_at_call 26; (with_reducible refine XA.out.mono ?_); rintro e w1 ⟨rfl, h1⟩; (have H1 := Lib.hid h1); clear h1)
      | (go_at_call 26; (with_reducible refine (H1.out.u8 m.code HP.out.code (by simp)).mono ?_); rintro e w2 ⟨rfl, h2⟩; (have H2 := Lib.hid h2); clear h2)
      | (go_at_call 27; (with_reducible refine (H2.out.u16 c HC.out (by simp)).mono ?_); rintro e w3 ⟨rfl, h3⟩; (have H3 := Lib.hid h3); clear h3)
      | (go_at_call 28; (with_reducible refine (H3.out.u32 m.rest HP.out.rest (by simp [be2_len])).mono ?_); rintro e w4 ⟨rfl, h4⟩; (have H4 := Lib.hid h4); clear h4)
      | (go_at_call 17; refine (H4.out.finish (by simp [be2_len, ibe4_len])).mono ?_; rintro e w5 ⟨b5, rfl, h5, h6, h7⟩; (have H5 := Lib.hid (And.intro h5 (And.intro h6 h7))); clear h5 h6 h7))
  all_goals
    go_wp2_with fail
    go_ret
    have h1 := H5.out.1
    have h2 := HG.out
    refine ⟨b5, rfl, ?_, H5.out.2.1, ?_⟩
    · rw [HE.out]; omega
    · rw [HE.out]; exact below_to HB.out H5.out.2.2 (Nat.le_of_lt HG.out)
end Go.Proofs.YtlhanaglhkmcfaaDoor
