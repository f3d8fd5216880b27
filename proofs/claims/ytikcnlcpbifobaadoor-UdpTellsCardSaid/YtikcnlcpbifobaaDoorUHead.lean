/-
  What is proved: udp's head (the first eight bytes of a datagram) and its sum by contract.
  Conditions: the datagram's numbers fit their types, it has fewer than 65536 bytes.
-/
import Derived.Test.YtikcnlcpbifobaaDoorUDg
namespace Go.Proofs.YtikcnlcpbifobaaDoor
open Go.RowKit

theorem u16_wrapN (v : Nat) (h : v < 65536) : IntKind.u16.wrap (v : Int) = (v : Int) := by
  have h1 : IntKind.u16.bits = 16 := rfl
  have h2 : IntKind.u16.signed = false := rfl
  simp [IntKind.wrap, h1, h2]
  omega
theorem RdL.three {w : World} {v v2 v3 : Value} {bs bs2 bs3 : List UInt8} (h : Rd w v bs) (h2 : Rd w v2 bs2) (h3 : Rd w v3 bs3) : RdL (w.alloc (.cells #[v, v2, v3] 22)) (.slice (some ⟨w.heap.size, 0, none⟩) 3 3) [bs, bs2, bs3] :=
  ⟨some ⟨w.heap.size, 0, none⟩, 3, rfl, Nat.le_refl _, fun _ => ⟨w.heap.size, 0, rfl, fun i bs0 hi => by
    match i with
    | 0 => cases hi; exact ⟨v, by rw [cell_of_row _ _ _ _ _ _ (heap_alloc_new w _)]; rfl, h.alloc _⟩
    | 1 => cases hi; exact ⟨v2, by rw [cell_of_row _ _ _ _ _ _ (heap_alloc_new w _)]; rfl, h2.alloc _⟩
    | 2 => cases hi; exact ⟨v3, by rw [cell_of_row _ _ _ _ _ _ (heap_alloc_new w _)]; rfl, h3.alloc _⟩
    | i + 3 => simp at hi⟩⟩
theorem Sum_three {w : World} {g : Nat} (hg : g = w.heap.size) {v v2 v3 : Value} {bs bs2 bs3 : List UInt8} (h : Rd w v bs) (h2 : Rd w v2 bs2) (h3 : Rd w v3 bs3) (hn : bs.length + (bs2.length + bs3.length) ≤ 1099511627776) :
    Calls Tryd.prog 51 #[.slice (some ⟨g, 0, none⟩) 3 3] (w.alloc (.cells #[v, v2, v3] 22)) fun e w' => e = .returned (.int .u16 ((ck (bs ++ (bs2 ++ bs3)) : Nat) : Int)) ∧ w.alloc (.cells #[v, v2, v3] 22) = w' := by
  subst hg
  have := Sum_any _ _ _ (RdL.three h h2 h3) (by simp; omega) (by simp)
  simpa using this
theorem hd8_rd {w : World} {b : Nat} {x y z c : Nat} (hg : w.heap[b]? = some (bytesObj (hd8 x y z c))) : Rd w (.slice (some ⟨b, 0, none⟩) 8 8) (hd8 x y z c) := Rd.of_obj (c := 8) hg (Nat.le_refl _)
set_option maxRecDepth 100000 in
set_option maxHeartbeats 4000000 in
theorem uhead_any (d : Dg) (hd : d.In) (hn : d.n < 65536) (A : Option Addr) (cap c : Nat) (hc : c < 65536) (w : World) :
    Calls Tryd.prog 41 #[.agg #[.int .u16 d.src, .int .u16 d.dst, .bool d.plain, .slice A d.b.length cap], .int .u16 (c : Int)] w fun e w' => ∃ b, e = .returned (.slice (some ⟨b, 0, none⟩) 8 8) ∧ w.heap.size ≤ b ∧ w'.heap[b]? = some (bytesObj (hd8 d.src d.dst d.n c)) ∧ Below w.heap.size w w' := by
  have HX := Lib.hid (DgAt.new w d (.slice A d.b.length cap))
  have HB := Lib.hid (below_al (Below.refl w.heap.size w) (d.obj (.slice A d.b.length cap)))
  have HP := Lib.hid hd
  have HL : Hid (d.n < 65536) := hn
  have HC : Hid (c < 65536) := hc
  have HS : Hid (∀ W, _) := fun W => dgsize_any d A cap hd.b W
  have hwl : IntKind.u16.wrap ((d.n : Nat) : Int) = ((d.n : Nat) : Int) := u16_wrapN _ hn
  clear hd hn hc
  go_enter Tryd.func41, Tryd.ntmps41
  go_upto_region 1 with fail
  generalize hW : w.alloc (d.obj (.slice A d.b.length cap)) = W at HX HB
  unfold Dg.obj at hW
  rw [hW]
  clear hW
  have HG : Hid (w.heap.size < W.heap.size) := HX.out.lt
  generalize hG : w.heap.size = G at *
  have HE := Lib.hid hG
  clear hG
  go_cut [5] (fun s5 wx => ∃ q, s5 = .pointer (some ⟨q, 0, none⟩) ∧ Wrt W q (be2 d.src ++ be2 d.dst) wx)
  case first =>
    have XA := Lib.hid ((Wrt.new W).drew.u16 d.src HP.out.src (by decide))
    have KS : Hid (∀ W', Below W.heap.size W W' → W'.cell? ⟨G, 0, none⟩ = some (.int .u16 d.src) ∧ W'.cell? ⟨G, 1, none⟩ = some (.int .u16 d.dst)) := fun W' h => ⟨(HX.out.below h).cells.1, (HX.out.below h).cells.2.1⟩
    go_region_held_law (fun W' => W'.cell? ⟨G, 0, none⟩ = some (.int .u16 d.src) ∧ W'.cell? ⟨G, 1, none⟩ = some (.int .u16 d.dst))
      (first | assumption | exact KS.out _ H2.out.old | exact KS.out _ H1.out.old | exact KS.out _ (below_drew W) | exact KS.out _ (below_al (below_drew W) _))
      (first
        | (go_at_call 54; (with_reducible refine XA.out.mono ?_); rintro e w1 ⟨rfl, h1⟩; (have H1 := Lib.hid h1); clear h1)
        | (go_at_call 54; refine (H1.out.u16 d.dst HP.out.dst (by simp [be2_len])).mono ?_; rintro e w2 ⟨rfl, h2⟩; (have H2 := Lib.hid h2); clear h2))
    all_goals
      go_wp2_with fail
      go_meet
      exact ⟨_, rfl, H2.out⟩
  obtain ⟨q, rfl, h2⟩ := hcut
  have H2 := Lib.hid h2
  have KX := Lib.hid ((HX.out.below h2.old).cells)
  clear h2
  obtain ⟨c0, c1, c2, c3⟩ := KX.out
  go_upto_region 2 with fail
  go_wp2_with fail
  refine (HS.out _).mono ?_
  rintro e w3 ⟨rfl, rfl⟩
  clear c0 c1 c2 c3
  have H3 := Lib.hid (H2.out.below (below_al (Below.refl _ _) (d.obj (.slice A d.b.length cap))))
  generalize wc.alloc (d.obj (.slice A d.b.length cap)) = W3 at *
  go_wp2_with fail
  refine (H3.out.u16 d.n HL.out (by simp [be2_len])).mono ?_
  rintro e w4 ⟨rfl, h4⟩
  have H4 := Lib.hid h4
  clear h4 hwl
  go_wp2_with fail
  refine (H4.out.u16 c HC.out (by simp [be2_len])).mono ?_
  rintro e w5 ⟨rfl, h5⟩
  have H5 := Lib.hid h5
  clear h5
  go_wp2_with fail
  refine (H5.out.finish (by simp [be2_len])).mono ?_
  rintro e w6 ⟨b, rfl, h6, h7, h8⟩
  have H6 := Lib.hid (And.intro h6 (And.intro h7 h8))
  clear h6 h7 h8
  go_wp2_with fail
  go_ret
  obtain rfl := HE.out
  exact ⟨b, rfl, by have h1 := H6.out.1; have h2 := HG.out; omega, H6.out.2.1, below_to HB.out H6.out.2.2 (Nat.le_of_lt HG.out)⟩
end Go.Proofs.YtikcnlcpbifobaaDoor
