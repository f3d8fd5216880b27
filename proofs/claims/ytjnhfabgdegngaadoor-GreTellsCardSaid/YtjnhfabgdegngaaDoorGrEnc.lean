/-
  What is proved: gre.Encap by contract, with all of its outcomes.
  Conditions: the header's numbers fit their types.
-/
import Derived.Test.YtjnhfabgdegngaaDoorGrHead
import Derived.Deep.RegionHeldLaw
namespace Go.Proofs.YtjnhfabgdegngaaDoor
open Go.RowKit

/-- What Encap makes of a frame. -/
def GH.pack (h : GH) (l : List UInt8) : List UInt8 := h.bytes (ck (h.bytes 0 ++ l)) ++ l
theorem GH.bytes_nosum {h : GH} (hs : h.s = false) (c d : Nat) : h.bytes c = h.bytes d := by unfold GH.bytes GH.sumBytes; rw [if_neg (by rw [hs]; decide), if_neg (by rw [hs]; decide)]
theorem GH.pack_len (h : GH) (l : List UInt8) : (h.pack l).length = h.at + l.length := by unfold GH.pack; rw [List.length_append, GH.bytes_len]
theorem grframe_fits {n : Nat} (h : frameWrong n = 0) : 14 ≤ n ∧ n ≤ 9000 := by
  unfold frameWrong at h
  by_cases h1 : n < 14
  · rw [if_pos h1] at h; cases h
  · rw [if_neg h1] at h
    by_cases h2 : 9000 < n
    · rw [if_pos h2] at h; cases h
    · omega
/-- What Encap tells where it puts nothing in, and where it does. -/
def GEBad (n : Int) (w : World) (e : Ending) (w' : World) : Prop :=
  ∃ b, e = .returned (.tuple #[.slice none 0 0, .iface 74 (.pointer (some ⟨b, 0, none⟩))]) ∧ Chain w' n [grWord] (.iface 74 (.pointer (some ⟨b, 0, none⟩))) ∧ Below w.heap.size w w'
def GEGood (l : List UInt8) (w : World) (e : Ending) (w' : World) : Prop :=
  ∃ g, e = .returned (.tuple #[.slice (some ⟨g, 0, none⟩) l.length l.length, .nilIface]) ∧ w.heap.size ≤ g ∧ w'.heap[g]? = some (bytesObj l) ∧ Below w.heap.size w w'
theorem grencap_bad (h : GH) (A : Option Addr) (n c : Nat) (w : World) (hn : frameWrong n ≠ 0) :
    Calls Tryd.prog 6 #[.agg #[.bool h.s, .bool h.k, .int .u32 (h.key : Int), .bool h.q, .int .u32 (h.seq : Int)], .slice A n c] w (GEBad (frameWrong n : Nat) w) := by
  have HB := Lib.hid (gbelow_al (Below.refl w.heap.size w) h.obj)
  unfold GEBad grWord
  have HX : Hid (∀ W, _) := fun W => xright_bad A n c hn W
  clear hn
  go_enter Tryd.func6, Tryd.ntmps6
  go_upto_region 1 with fail
  generalize hW : w.alloc h.obj = W at HB
  unfold GH.obj GH.row at hW
  rw [hW]
  clear hW
  go_wp2_with fail
  refine (HX.out _).mono ?_
  rintro e w' ⟨rfl, rfl⟩
  go_wp2_with fail
  refine (wrap_any _ _ _ _).mono ?_
  rintro e w4 ⟨rfl, hw⟩
  have HC3 := Lib.hid (chain_wrapped ⟨#[103, 114, 101]⟩ (chain_errno W (frameWrong n : Nat)))
  rw [hw] at HC3
  have HB3 : Hid (Below w.heap.size w w4) := by subst hw; exact HB.out.alloc HB.out.size _
  clear hw
  go_wp2_with fail
  go_ret2
  exact ⟨_, rfl, HC3.out, HB3.out⟩
set_option maxRecDepth 100000 in
set_option maxHeartbeats 4000000 in
theorem grencap_ok (h : GH) (hf : h.Fit) (A : Option Addr) (c : Nat) (l : List UInt8) (w : World) (hr : Rd w (.slice A l.length c) l) (h1 : 14 ≤ l.length) (h2 : l.length ≤ 9000) :
    Calls Tryd.prog 6 #[.agg #[.bool h.s, .bool h.k, .int .u32 (h.key : Int), .bool h.q, .int .u32 (h.seq : Int)], .slice A l.length c] w (GEGood (h.pack l) w) := by
  have HX := Lib.hid (GBox.new w h)
  have HB := Lib.hid (gbelow_al (Below.refl w.heap.size w) h.obj)
  have HI := Lib.hid (fun W => xright_ok A l.length c h1 h2 W)
  have HR := Lib.hid hr
  have HL := Lib.hid h2
  have HH : Hid (∀ d : Nat, d < 65536 → ∀ W, _) := fun d hd W => grhead_any h hf d hd W
  have HPL := Lib.hid (h.pack_len l)
  have HAT := Lib.hid h.at_le
  have HBL := Lib.hid h.bytes_len
  unfold GEGood
  clear hr h1 h2 hf
  generalize hN : (h.pack l).length = N at *
  have HN := Lib.hid hN
  clear hN
  go_enter Tryd.func6, Tryd.ntmps6
  go_upto_region 1 with fail
  generalize hW : w.alloc h.obj = W at HX HB
  unfold GH.obj GH.row at hW
  rw [hW]
  clear hW
  have HG : Hid (w.heap.size < W.heap.size) := HX.out.lt
  have HRW := Lib.hid (HR.out.below HB.out)
  generalize hG : w.heap.size = G at *
  have HE := Lib.hid hG
  clear hG
  obtain ⟨c0, c1, c2, c3, c4⟩ := HX.out.cells
  go_upto_region 4 with (refine (HI.out _).mono ?_; rintro e w' ⟨rfl, rfl⟩)
  go_wp2_with fail
  refine (HH.out 0 (by decide) _).mono ?_
  rintro e w1 ⟨b, rfl, hb, ho, hb1⟩
  have H1 := Lib.hid (And.intro hb (And.intro ho hb1))
  clear hb ho hb1 c0 c1 c2 c3 c4
  obtain ⟨s, hs, c0⟩ : ∃ s, Hid (h.s = s) ∧ w1.cell? ⟨G, 0, none⟩ = some (.bool s) := ⟨h.s, rfl, (HX.out.below H1.out.2.2).c0⟩
  go_upto_if 17 with fail
  go_cut [7] (fun s7 wx => ∃ d, s7 = .slice (some ⟨d, 0, none⟩) h.at h.at ∧ wx.heap[d]? = some (bytesObj (h.bytes (ck (h.bytes 0 ++ l)))) ∧ Below W.heap.size W wx)
  case first =>
    cases s
    · have hq : Hid (h.bytes (ck (h.bytes 0 ++ l)) = h.bytes 0) := GH.bytes_nosum hs.out _ _
      clear c0 hs
      go_wp2_with fail
      go_meet
      exact ⟨_, rfl, by rw [hq.out]; exact H1.out.2.1, H1.out.2.2⟩
    · clear c0 hs
      have KS : Hid (∀ W', Below W.heap.size W W' → W'.cell? ⟨G, 0, none⟩ = some (.bool h.s) ∧ W'.cell? ⟨G, 1, none⟩ = some (.bool h.k) ∧ W'.cell? ⟨G, 2, none⟩ = some (.int .u32 (h.key : Int)) ∧ W'.cell? ⟨G, 3, none⟩ = some (.bool h.q) ∧ W'.cell? ⟨G, 4, none⟩ = some (.int .u32 (h.seq : Int))) := fun W' k => (HX.out.below k).cells
      have HB2 := Lib.hid (below_to H1.out.2.2 (below_drew w1) H1.out.2.2.size)
      have HD : Hid (w1.drew.heap[b]? = some (bytesObj (h.bytes 0))) := H1.out.2.1
      have HR2 := Lib.hid (HRW.out.below HB2.out)
      have HCK : Hid (ck (h.bytes 0 ++ l) < 65536) := by have := ck_le (h.bytes 0 ++ l); show _ < _; omega
      clear H1
      go_upto_region 6 with fail
      go_region_held_law (fun W' => W'.cell? ⟨G, 0, none⟩ = some (.bool h.s) ∧ W'.cell? ⟨G, 1, none⟩ = some (.bool h.k) ∧ W'.cell? ⟨G, 2, none⟩ = some (.int .u32 (h.key : Int)) ∧ W'.cell? ⟨G, 3, none⟩ = some (.bool h.q) ∧ W'.cell? ⟨G, 4, none⟩ = some (.int .u32 (h.seq : Int)))
        (first | assumption | exact KS.out _ HB2.out | exact KS.out _ (gbelow_al HB2.out _) | exact KS.out _ H3.out.2)
        (first
          | (go_at_call 17; refine (Sum_two rfl (bs := h.bytes 0) (by rw [← HBL.out 0]; exact Rd.of_obj (c := (h.bytes 0).length) HD.out (Nat.le_refl _)) HR2.out (by have := HL.out; have := HAT.out; rw [HBL.out 0]; omega)).mono ?_; rintro e w2 ⟨rfl, rfl⟩)
          | (go_at_call 16; refine (HH.out _ HCK.out _).mono ?_; rintro e w3 ⟨b3, rfl, h1, h2, h3⟩; (have H3 := Lib.hid (And.intro h2 (below_to (gbelow_al HB2.out _) h3 (gbelow_al HB2.out _).size))); clear h1 h2 h3))
      all_goals
        go_wp2_with fail
        go_meet
        exact ⟨_, rfl, H3.out.1, H3.out.2⟩
  obtain ⟨d, rfl, h1, h2⟩ := hcut
  clear H1 c0 hs
  have H0 := Lib.hid ((Wrt.new wc).bytes (h.bytes (ck (h.bytes 0 ++ l))) (.slice (some ⟨d, 0, none⟩) h.at h.at) (by rw [← HBL.out (ck (h.bytes 0 ++ l))]; exact (Rd.of_obj (c := (h.bytes (ck (h.bytes 0 ++ l))).length) h1 (Nat.le_refl _)).alloc _) (by rw [HBL.out]; have := HAT.out; simp; omega))
  have HRc := Lib.hid (HRW.out.below h2)
  have HBc := Lib.hid (below_to HB.out h2 (Nat.le_of_lt HG.out))
  clear h1 h2
  go_wp2_with fail
  refine H0.out.mono ?_
  rintro e w3 ⟨rfl, k3⟩
  have H3 := Lib.hid k3
  clear k3
  go_wp2_with fail
  refine (H3.out.bytes l _ (HRc.out.below H3.out.old) (by have := HL.out; have := HAT.out; simp only [List.nil_append]; rw [HBL.out]; omega)).mono ?_
  rintro e w4 ⟨rfl, k4⟩
  have H4 := Lib.hid k4
  clear k4
  go_wp2_with fail
  refine (H4.out.finish (by have := HL.out; have := HAT.out; simp only [List.nil_append, List.length_append]; rw [HBL.out]; omega)).mono ?_
  rintro e w5 ⟨g, he, k4, k5, k6⟩
  rw [show ([] ++ h.bytes (ck (h.bytes 0 ++ l)) ++ l) = h.pack l from rfl, HN.out] at he
  subst he
  have H5 := Lib.hid (And.intro k4 (And.intro k5 k6))
  clear k4 k5 k6
  go_wp2_with fail
  go_ret2
  obtain rfl := HE.out
  exact ⟨g, rfl, by have h1 := H5.out.1; have := HBc.out.size; omega, H5.out.2.1, below_to HBc.out H5.out.2.2 HBc.out.size⟩
theorem grencap_any (h : GH) (hf : h.Fit) (A : Option Addr) (c : Nat) (l : List UInt8) (w : World) (hr : Rd w (.slice A l.length c) l) :
    Calls Tryd.prog 6 #[.agg #[.bool h.s, .bool h.k, .int .u32 (h.key : Int), .bool h.q, .int .u32 (h.seq : Int)], .slice A l.length c] w fun e w' => (frameWrong l.length ≠ 0 ∧ GEBad (frameWrong l.length : Nat) w e w') ∨ (frameWrong l.length = 0 ∧ GEGood (h.pack l) w e w') := by
  by_cases h2 : frameWrong l.length = 0
  · have h3 := grframe_fits h2
    exact (grencap_ok h hf A c l w hr h3.1 h3.2).mono fun e w' h => .inr ⟨h2, h⟩
  · exact (grencap_bad h A l.length c w h2).mono fun e w' h => .inl ⟨h2, h⟩
end Go.Proofs.YtjnhfabgdegngaaDoor
