/-
  What is proved: ipv4.Packet's Bytes by contract: a right packet's bytes, another one's error.
  Conditions: the packet's numbers fit their types; fewer than 2^40 bytes.
-/
import Derived.Test.YtdhndahoaobhpaaDoorVHead
namespace Go.Proofs.YtdhndahoaobhpaaDoor
open Go.RowKit

def Ip.sum (p : Ip) : Nat := ck (p.hd 0).bs
def Ip.bs (p : Ip) : List UInt8 := (p.hd p.sum).bs ++ p.b
theorem Ip.bs_len (p : Ip) : p.bs.length = 20 + p.b.length := by simp [Ip.bs, Hd.bs_len]
theorem vbelow_dr {B : Nat} {w W : World} (h : Below B w W) : Below B w W.drew := ⟨h.os, h.tape, h.output, h.size, h.block⟩
theorem hd_rd {w : World} {b : Nat} {h : Hd} (hg : w.heap[b]? = some (bytesObj h.bs)) : Rd w (.slice (some ⟨b, 0, none⟩) 20 20) h.bs := Rd.of_obj (c := 20) hg (Nat.le_refl _)
theorem head_lit (p : Ip) (hp : p.In) (h0 : 0 ≤ p.off) (ho : p.off ≤ 65515) (hb : p.b.length ≤ 65515) (A : Option Addr) (cap c : Nat) (z : Int) (hz : z = (c : Int)) (hc : c < 65536) (w : World) :
    Calls Tryd.prog 11 #[.agg #[.int .u8 p.tos, .int .u16 p.id, .bool p.df, .bool p.mf, .int .i64 p.off, .int .u8 p.ttl, .int .u8 p.proto, .int .u32 p.src, .int .u32 p.dst, .slice A p.b.length cap], .int .u16 z] w fun e w' => ∃ b, e = .returned (.slice (some ⟨b, 0, none⟩) 20 20) ∧ w.heap.size ≤ b ∧ w'.heap[b]? = some (bytesObj (p.hd c).bs) ∧ Below w.heap.size w w' := by
  subst hz
  exact head_any p hp h0 ho hb A cap c hc w
theorem right_lit (p : Ip) (A : Option Addr) (c : Nat) (w : World) (hL : p.b.length ≤ 1099511627776) :
    Calls Tryd.prog 9 #[.agg #[.int .u8 p.tos, .int .u16 p.id, .bool p.df, .bool p.mf, .int .i64 p.off, .int .u8 p.ttl, .int .u8 p.proto, .int .u32 p.src, .int .u32 p.dst, .slice A p.b.length c]] w (RightTold p w) := right_any p A c w hL
theorem RightTold.good {p : Ip} {w : World} {e : Ending} {w' : World} (h : RightTold p w e w') (hb : p.bad = 0) : e = .returned .nilIface ∧ Below w.heap.size w w' := by
  obtain ⟨h1, ⟨_, h2⟩ | ⟨h2, _⟩⟩ := h
  · exact ⟨h2, h1⟩
  · exact absurd hb h2
theorem bad_zero {p : Ip} (h : p.bad = 0) : 0 ≤ p.off ∧ p.off % 8 = 0 ∧ p.off ≤ 65515 - (p.b.length : Int) ∧ (p.mf = true → 0 < p.b.length ∧ p.b.length % 8 = 0) := by
  unfold Ip.bad at h
  split at h
  · cases h
  · rename_i h1
    split at h
    · cases h
    · rename_i h2
      unfold Ip.arg at h1
      simp only [Bool.or_eq_true, Bool.and_eq_true, decide_eq_true_eq, Bool.not_eq_true', Bool.and_eq_false_iff, decide_eq_false_iff_not, not_or, not_and] at h1
      obtain ⟨⟨h3, h4⟩, h5⟩ := h1
      refine ⟨by omega, by omega, by omega, fun hm => ?_⟩
      have h6 := h5 hm
      omega
set_option maxHeartbeats 1000000 in
theorem vBytes_bad (p : Ip) (hn : p.bad ≠ 0) (A : Option Addr) (c : Nat) (w : World) (hL : p.b.length ≤ 1099511627776) :
    Calls Tryd.prog 5 #[p.val (.slice A p.b.length c)] w fun e w' => ∃ b, e = .returned (.tuple #[.slice none 0 0, .iface 74 (.pointer (some ⟨b, 0, none⟩))]) ∧ Chain w' p.bad [ipWord] (.iface 74 (.pointer (some ⟨b, 0, none⟩))) ∧ Below w.heap.size w w' := by
  have HX := Lib.hid (right_lit p A c (w.alloc (p.obj (.slice A p.b.length c))) hL)
  have HB := Lib.hid (below_al (Below.refl w.heap.size w) (p.obj (.slice A p.b.length c)))
  have HN := Lib.hid hn
  clear hn hL
  unfold Ip.obj at HX HB
  rw [Ip.val_lit]
  go_enter Tryd.func5, Tryd.ntmps5
  go_wp2_with fail
  refine HX.out.mono ?_
  rintro e w' ht
  obtain ⟨b, rfl, hc, hb⟩ := ht.bad HN.out
  have H := Lib.hid (And.intro hc (below_to HB.out hb HB.out.size))
  clear hc hb ht HX
  go_wp2_with fail
  go_ret2
  exact ⟨b, rfl, H.out⟩
set_option maxRecDepth 100000 in
set_option maxHeartbeats 4000000 in
theorem vBytes_ok (p : Ip) (hp : p.In) (hn : p.bad = 0) (A : Option Addr) (cap : Nat) (w : World) (hr : Rd w (.slice A p.b.length cap) p.b) :
    Calls Tryd.prog 5 #[p.val (.slice A p.b.length cap)] w fun e w' => ∃ b, e = .returned (.tuple #[.slice (some ⟨b, 0, none⟩) (20 + p.b.length) (20 + p.b.length), .nilIface]) ∧ w.heap.size ≤ b ∧ w'.heap[b]? = some (bytesObj p.bs) ∧ Below w.heap.size w w' := by
  obtain ⟨z1, z2, z3, z4⟩ := bad_zero hn
  have HX := Lib.hid (IpAt.new w p (.slice A p.b.length cap))
  have HB := Lib.hid (below_al (Below.refl w.heap.size w) (p.obj (.slice A p.b.length cap)))
  have HR := Lib.hid (right_lit p A cap (w.alloc (p.obj (.slice A p.b.length cap))) hp.b)
  have HD := Lib.hid hr
  have HH : Hid (∀ (c : Nat) (z : Int) (W : World), z = (c : Int) → c < 65536 → _) := fun c z W hz hc => head_lit p hp z1 (by omega) (by omega) A cap c z hz hc W
  have HS : Hid (p.sum < 65536) := by have := ck_le (p.hd 0).bs; show ck _ < _; omega
  have HL : Hid ((p.b.length : Int) ≤ 65515) := by show _ ≤ _; omega
  have HN := Lib.hid hn
  clear hp hn hr z1 z2 z3 z4
  unfold Ip.obj at HR
  rw [Ip.val_lit]
  go_enter Tryd.func5, Tryd.ntmps5
  go_wp2_with fail
  refine HR.out.mono ?_
  rintro e W1 ht
  obtain ⟨rfl, hb1⟩ := ht.good HN.out
  clear ht
  have HX1 := Lib.hid (HX.out.below hb1)
  have HB1 := Lib.hid (below_to HB.out hb1 HB.out.size)
  have HLT : Hid (w.heap.size < W1.heap.size) := HX1.out.lt
  clear hb1 HR HX HB
  generalize hG : w.heap.size = G at *
  have HE := Lib.hid hG
  clear hG
  go_upto_region 4 with fail
  go_cut [5] (fun s5 wx => ∃ b, s5 = .slice (some ⟨b, 0, none⟩) 20 20 ∧ W1.heap.size ≤ b ∧ wx.heap[b]? = some (bytesObj (p.hd p.sum).bs) ∧ Below W1.heap.size W1 wx)
  case first =>
    have X1 := Lib.hid (HH.out 0 0 W1.drew rfl (by decide))
    have KS : Hid (∀ W', Below W1.heap.size W1 W' → W'.cell? ⟨G, 0, none⟩ = some (.int .u8 p.tos) ∧ W'.cell? ⟨G, 1, none⟩ = some (.int .u16 p.id) ∧ W'.cell? ⟨G, 2, none⟩ = some (.bool p.df) ∧ W'.cell? ⟨G, 3, none⟩ = some (.bool p.mf) ∧ W'.cell? ⟨G, 4, none⟩ = some (.int .i64 p.off) ∧
        W'.cell? ⟨G, 5, none⟩ = some (.int .u8 p.ttl) ∧ W'.cell? ⟨G, 6, none⟩ = some (.int .u8 p.proto) ∧ W'.cell? ⟨G, 7, none⟩ = some (.int .u32 p.src) ∧ W'.cell? ⟨G, 8, none⟩ = some (.int .u32 p.dst) ∧ W'.cell? ⟨G, 9, none⟩ = some (.slice A p.b.length cap)) := fun W' h => (HX1.out.below h).cells
    go_region_held_law (fun W' => W'.cell? ⟨G, 0, none⟩ = some (.int .u8 p.tos) ∧ W'.cell? ⟨G, 1, none⟩ = some (.int .u16 p.id) ∧ W'.cell? ⟨G, 2, none⟩ = some (.bool p.df) ∧ W'.cell? ⟨G, 3, none⟩ = some (.bool p.mf) ∧ W'.cell? ⟨G, 4, none⟩ = some (.int .i64 p.off) ∧
        W'.cell? ⟨G, 5, none⟩ = some (.int .u8 p.ttl) ∧ W'.cell? ⟨G, 6, none⟩ = some (.int .u8 p.proto) ∧ W'.cell? ⟨G, 7, none⟩ = some (.int .u32 p.src) ∧ W'.cell? ⟨G, 8, none⟩ = some (.int .u32 p.dst) ∧ W'.cell? ⟨G, 9, none⟩ = some (.slice A p.b.length cap))
      (first | assumption | exact KS.out _ (below_drew W1) | exact KS.out _ H4.out.2.2 | exact KS.out _ (H2.out.2.2) | exact KS.out _ (below_al H2.out.2.2 _))
      (first
        | (go_at_call 11; (with_reducible refine X1.out.mono ?_); rintro e w2 ⟨b1, rfl, h1, h2, h3⟩; (have H2 := Lib.hid (And.intro h1 (And.intro h2 ((below_drew W1).trans h3)))); clear h1 h2 h3)
        | (go_at_call 12; (with_reducible refine (Sum_one rfl (hd_rd H2.out.2.1) (by rw [Hd.bs_len]; decide)).mono ?_); rintro e w3 ⟨rfl, rfl⟩)
        | (go_at_call 11; refine (HH.out p.sum _ _ rfl HS.out).mono ?_; rintro e w4 ⟨b2, rfl, h1, h2, h3⟩; (have H4 := Lib.hid (And.intro (Nat.le_trans (below_al H2.out.2.2 _).size h1) (And.intro h2 (below_to (below_al H2.out.2.2 _) h3 (below_al H2.out.2.2 _).size)))); clear h1 h2 h3))
    all_goals
      go_wp2_with fail
      go_meet
      exact ⟨_, rfl, H4.out⟩
  obtain ⟨b, rfl, h1, h2, h3⟩ := hcut
  have HQ := Lib.hid (And.intro h1 (And.intro h2 h3))
  clear h1 h2 h3 HH
  go_upto_region 5 with fail
  generalize wc = W2 at *
  have XA := Lib.hid ((Wrt.new W2).drew.bytes (p.hd p.sum).bs (.slice (some ⟨b, 0, none⟩) 20 20) ((hd_rd HQ.out.2.1).below (vbelow_dr (below_al (Below.refl _ _) _))) (by rw [Hd.bs_len]; decide))
  have KS : Hid (∀ W', Below W2.heap.size W2 W' → W'.cell? ⟨G, 9, none⟩ = some (.slice A p.b.length cap)) := fun W' h => ((HX1.out.below HQ.out.2.2).below h).cells.2.2.2.2.2.2.2.2.2
  have KR : Hid (∀ W', Below W2.heap.size W2 W' → Rd W' (.slice A p.b.length cap) p.b) := fun W' h => (HD.out.below (by rw [HE.out]; exact HB1.out)).below (below_to HQ.out.2.2 h HQ.out.2.2.size)
  go_region_held_law (fun W' => W'.cell? ⟨G, 9, none⟩ = some (.slice A p.b.length cap))
    (first | assumption | exact KS.out _ (below_drew W2) | exact KS.out _ (below_al (below_drew W2) _) | exact KS.out _ H5.out.2.2 | exact KS.out _ H4.out.old | exact KS.out _ H3.out.old)
    (first
      | (go_at_call 13; (with_reducible refine XA.out.mono ?_); rintro e w3 ⟨rfl, h3⟩; (have H3 := Lib.hid h3); clear h3)
      | (go_at_call 13; (with_reducible refine (H3.out.bytes p.b _ (KR.out _ H3.out.old) (by have h1 := HL.out; simp [Hd.bs_len]; omega)).mono ?_); rintro e w4 ⟨rfl, h4⟩; (have H4 := Lib.hid h4); clear h4)
      | (go_at_call 14; refine (H4.out.finish (by have h1 := HL.out; simp [Hd.bs_len]; omega)).mono ?_; rintro e w5 ⟨b5, rfl, h5, h6, h7⟩; (have H5 := Lib.hid (And.intro h5 (And.intro h6 h7))); clear h5 h6 h7))
  all_goals
    go_wp2_with fail
    go_ret2
    have hl : W1.heap.size ≤ b5 := Nat.le_trans HQ.out.2.2.size H5.out.1
    have hlt := HLT.out
    have hb := below_to HB1.out (below_to HQ.out.2.2 H5.out.2.2 HQ.out.2.2.size) (Nat.le_of_lt hlt)
    refine ⟨b5, ?_, ?_, H5.out.2.1, ?_⟩
    · simp [Hd.bs_len]
    · rw [HE.out]; omega
    · rw [HE.out]; exact hb
end Go.Proofs.YtdhndahoaobhpaaDoor
