/-
  What is proved: ipv4's head (the first twenty bytes of a packet) by contract.
  Conditions: the packet's numbers fit their types, its bytes and its offset are at most 65515.
-/
import Derived.Test.YtdhndahoaobhpaaDoorVRight
namespace Go.Proofs.YtdhndahoaobhpaaDoor
open Go.RowKit

/-- What the first twenty bytes say. -/
structure Hd where
  first : Nat
  tos : Nat
  size : Nat
  id : Nat
  bits : Nat
  ttl : Nat
  proto : Nat
  c : Nat
  src : Nat
  dst : Nat
structure Hd.In (h : Hd) : Prop where
  first : h.first < 256
  tos : h.tos < 256
  size : h.size < 65536
  id : h.id < 65536
  bits : h.bits < 65536
  ttl : h.ttl < 256
  proto : h.proto < 256
  c : h.c < 65536
  src : h.src < 4294967296
  dst : h.dst < 4294967296
def Hd.bs (h : Hd) : List UInt8 := [UInt8.ofNat h.first] ++ [UInt8.ofNat h.tos] ++ be2 h.size ++ be2 h.id ++ be2 h.bits ++ [UInt8.ofNat h.ttl] ++ [UInt8.ofNat h.proto] ++ be2 h.c ++ be4 h.src ++ be4 h.dst
theorem Hd.bs_len (h : Hd) : h.bs.length = 20 := rfl
/-- A packet's head with a sum. -/
def Ip.hd (p : Ip) (c : Nat) : Hd := ⟨69, p.tos, 20 + p.b.length, p.id, p.bits, p.ttl, p.proto, c, p.src, p.dst⟩
theorem ibe4_len (n : Nat) : (be4 n).length = 4 := rfl
def ipWtr : Obj := .cells #[.slice none 0 0] 46
theorem u16_wrapN (v : Nat) (h : v < 65536) : IntKind.u16.wrap (v : Int) = (v : Int) := by
  have h1 : IntKind.u16.bits = 16 := rfl
  have h2 : IntKind.u16.signed = false := rfl
  simp [IntKind.wrap, h1, h2]
  omega
theorem Wrt.u8i {w W : World} {q : Nat} {bs : List UInt8} (h : Wrt w q bs W) (n : Nat) (z : Int) (hz : z = (n : Int)) (hn : n < 256) (hL : bs.length + 1 ≤ 1099511627776) :
    Calls Tryd.prog 20 #[.pointer (some ⟨q, 0, none⟩), .int .u8 z] W fun e w' => e = .returned (.pointer (some ⟨q, 0, none⟩)) ∧ Wrt w q (bs ++ [UInt8.ofNat n]) w' := hz ▸ h.u8 n hn hL
theorem i64_wrapI (z : Int) (h0 : 0 ≤ z) (h : z < 9223372036854775808) : IntKind.i64.wrap z = z := by
  rw [IntKind.wrap_i64]
  omega
set_option maxRecDepth 100000 in
set_option maxHeartbeats 4000000 in
theorem head_any (p : Ip) (hp : p.In) (h0 : 0 ≤ p.off) (ho : p.off ≤ 65515) (hb : p.b.length ≤ 65515) (A : Option Addr) (cap c : Nat) (hc : c < 65536) (w : World) :
    Calls Tryd.prog 11 #[p.val (.slice A p.b.length cap), .int .u16 c] w fun e w' => ∃ b, e = .returned (.slice (some ⟨b, 0, none⟩) 20 20) ∧ w.heap.size ≤ b ∧ w'.heap[b]? = some (bytesObj (p.hd c).bs) ∧ Below w.heap.size w w' := by
  have HX := Lib.hid (IpAt.new w p (.slice A p.b.length cap))
  have HB := Lib.hid (below_al (Below.refl w.heap.size w) (p.obj (.slice A p.b.length cap)))
  have HP := Lib.hid hp
  have hq1 : p.off / 8 = (((p.off / 8).toNat : Nat) : Int) := by omega
  have hq2 : p.off.tdiv 8 = (((p.off / 8).toNat : Nat) : Int) := by rw [Int.tdiv_eq_ediv_of_nonneg h0]; exact hq1
  have hk8 : (p.off / 8).toNat < 8192 := by omega
  generalize hk : (p.off / 8).toNat = k at *
  have hbits : p.bits = p.fl + k := by unfold Ip.bits; rw [hk]
  have HK : Hid (p.bits = p.fl + k ∧ k < 8192) := ⟨hbits, hk8⟩
  have hwl : IntKind.u16.wrap (IntKind.i64.wrap (20 + (p.b.length : Int))) = ((20 + p.b.length : Nat) : Int) := by
    rw [i64_wrapI _ (by omega) (by omega)]
    exact u16_wrapN (20 + p.b.length) (by omega)
  have hwk := u16_wrapN k (by omega)
  have hor := or16_bits p.fl k (by unfold Ip.fl; cases p.df <;> cases p.mf <;> simp) hk8
  have hor2 : bits .or .u16 (p.fl : Int) (IntKind.u16.wrap (IntKind.i64.wrap (k : Int))) = ((p.fl + k : Nat) : Int) := by
    rw [i64_wrapI _ (by omega) (by omega), hwk]
    exact hor
  have HL : Hid (20 + p.b.length < 65536) := by show _ < _; omega
  have HC : Hid (c < 65536) := hc
  have HFL := Lib.hid (p.fl_lt)
  have HFG := Lib.hid (flags_any p (.slice A p.b.length cap))
  clear hp hc hk hbits
  rw [Ip.val_lit]
  go_enter Tryd.func11, Tryd.ntmps11
  go_upto_region 1 with fail
  generalize hW : w.alloc (p.obj (.slice A p.b.length cap)) = W at HX HB
  unfold Ip.obj at hW
  rw [hW]
  clear hW
  have HG : Hid (w.heap.size < W.heap.size) := HX.out.lt
  generalize hG : w.heap.size = G at *
  have HE := Lib.hid hG
  clear hG
  go_cut [5] (fun s5 wx => ∃ q, s5 = .pointer (some ⟨q, 0, none⟩) ∧ Wrt W q ([UInt8.ofNat 69] ++ [UInt8.ofNat p.tos] ++ be2 (20 + p.b.length)) wx)
  case first =>
    have XA := Lib.hid ((Wrt.new W).drew.u8i 69 69 rfl (by decide) (by decide))
    have KS : Hid (∀ W', Below W.heap.size W W' → W'.cell? ⟨G, 0, none⟩ = some (.int .u8 p.tos) ∧ W'.cell? ⟨G, 9, none⟩ = some (.slice A p.b.length cap)) := fun W' h => ⟨(HX.out.below h).cells.1, (HX.out.below h).cells.2.2.2.2.2.2.2.2.2⟩
    go_region_held_law (fun W' => W'.cell? ⟨G, 0, none⟩ = some (.int .u8 p.tos) ∧ W'.cell? ⟨G, 9, none⟩ = some (.slice A p.b.length cap))
      (first | assumption | exact KS.out _ H3.out.old | exact KS.out _ H2.out.old | exact KS.out _ H1.out.old | exact KS.out _ (below_drew W) | exact KS.out _ (below_al (below_drew W) _))
      (first
        | (go_at_call 20; (with_reducible refine XA.out.mono ?_); rintro e w1 ⟨rfl, h1⟩; (have H1 := Lib.hid h1); clear h1)
        | (go_at_call 20; refine (H1.out.u8 p.tos HP.out.tos (by decide)).mono ?_; rintro e w2 ⟨rfl, h2⟩; (have H2 := Lib.hid h2); clear h2)
        | (go_at_call 21; refine (H2.out.u16i (20 + p.b.length) _ (by omega) HL.out (by simp)).mono ?_; rintro e w3 ⟨rfl, h3⟩; (have H3 := Lib.hid h3); clear h3))
    all_goals
      go_wp2_with fail
      go_meet
      exact ⟨_, rfl, H3.out⟩
  obtain ⟨q, rfl, h2⟩ := hcut
  have H2 := Lib.hid h2
  clear h2
  go_upto_region 2 with fail
  go_cut [5] (fun s5 wx => s5 = .pointer (some ⟨q, 0, none⟩) ∧ Wrt W q ([UInt8.ofNat 69] ++ [UInt8.ofNat p.tos] ++ be2 (20 + p.b.length) ++ be2 p.id ++ be2 p.bits) wx)
  case first =>
    have X1 := Lib.hid (H2.out.drew.u16 p.id HP.out.id (by simp [be2_len]))
    have KS : Hid (∀ W', Below W.heap.size W W' → W'.cell? ⟨G, 0, none⟩ = some (.int .u8 p.tos) ∧ W'.cell? ⟨G, 1, none⟩ = some (.int .u16 p.id) ∧ W'.cell? ⟨G, 2, none⟩ = some (.bool p.df) ∧ W'.cell? ⟨G, 3, none⟩ = some (.bool p.mf) ∧ W'.cell? ⟨G, 4, none⟩ = some (.int .i64 p.off) ∧
        W'.cell? ⟨G, 5, none⟩ = some (.int .u8 p.ttl) ∧ W'.cell? ⟨G, 6, none⟩ = some (.int .u8 p.proto) ∧ W'.cell? ⟨G, 7, none⟩ = some (.int .u32 p.src) ∧ W'.cell? ⟨G, 8, none⟩ = some (.int .u32 p.dst) ∧ W'.cell? ⟨G, 9, none⟩ = some (.slice A p.b.length cap)) := fun W' h => (HX.out.below h).cells
    have KD := Lib.hid (H2.out.drew.old)
    have HF := HFG.out
    unfold Ip.val Ip.row at HF
    have HFH : Hid (∀ W', Calls Tryd.prog 22 _ W' _) := HF
    clear HF
    go_region_held_law (fun W' => W'.cell? ⟨G, 0, none⟩ = some (.int .u8 p.tos) ∧ W'.cell? ⟨G, 1, none⟩ = some (.int .u16 p.id) ∧ W'.cell? ⟨G, 2, none⟩ = some (.bool p.df) ∧ W'.cell? ⟨G, 3, none⟩ = some (.bool p.mf) ∧ W'.cell? ⟨G, 4, none⟩ = some (.int .i64 p.off) ∧
        W'.cell? ⟨G, 5, none⟩ = some (.int .u8 p.ttl) ∧ W'.cell? ⟨G, 6, none⟩ = some (.int .u8 p.proto) ∧ W'.cell? ⟨G, 7, none⟩ = some (.int .u32 p.src) ∧ W'.cell? ⟨G, 8, none⟩ = some (.int .u32 p.dst) ∧ W'.cell? ⟨G, 9, none⟩ = some (.slice A p.b.length cap))
      (first | assumption | exact KS.out _ KD.out | exact KS.out _ H5.out.old | exact KS.out _ H4.out.old | exact KS.out _ H3.out.old)
      (first
        | (go_at_call 21; (with_reducible refine X1.out.mono ?_); rintro e w3 ⟨rfl, h3⟩; (have H3 := Lib.hid h3); clear h3)
        | (go_at_call 22; refine (HFH.out _).mono ?_; rintro e w4 ⟨rfl, h4⟩; (have H4 := Lib.hid (H3.out.below h4)); clear h4)
        | (go_at_call 21; refine (H4.out.u16i p.bits _ (by have h1 := HK.out.1; omega) (by have h1 := HK.out; have h2 := HFL.out; omega) (by simp [be2_len])).mono ?_; rintro e w5 ⟨rfl, h5⟩; (have H5 := Lib.hid h5); clear h5))
    all_goals
      go_wp2_with fail
      go_meet
      exact ⟨rfl, H5.out⟩
  obtain ⟨rfl, h2⟩ := hcut
  have H2 := Lib.hid h2
  clear h2 HK HFL HFG hor hor2
  go_upto_region 3 with fail
  go_cut [5] (fun s5 wx => s5 = .pointer (some ⟨q, 0, none⟩) ∧ Wrt W q ([UInt8.ofNat 69] ++ [UInt8.ofNat p.tos] ++ be2 (20 + p.b.length) ++ be2 p.id ++ be2 p.bits ++ [UInt8.ofNat p.ttl] ++ [UInt8.ofNat p.proto] ++ be2 c) wx)
  case first =>
    have X1 := Lib.hid (H2.out.drew.u8 p.ttl HP.out.ttl (by simp [be2_len]))
    have KS : Hid (∀ W', Below W.heap.size W W' → W'.cell? ⟨G, 5, none⟩ = some (.int .u8 p.ttl) ∧ W'.cell? ⟨G, 6, none⟩ = some (.int .u8 p.proto)) := fun W' h => ⟨(HX.out.below h).cells.2.2.2.2.2.1, (HX.out.below h).cells.2.2.2.2.2.2.1⟩
    have KD := Lib.hid (H2.out.drew.old)
    go_region_held_law (fun W' => W'.cell? ⟨G, 5, none⟩ = some (.int .u8 p.ttl) ∧ W'.cell? ⟨G, 6, none⟩ = some (.int .u8 p.proto))
      (first | assumption | exact KS.out _ KD.out | exact KS.out _ H5.out.old | exact KS.out _ H4.out.old | exact KS.out _ H3.out.old)
      (first
        | (go_at_call 20; (with_reducible refine X1.out.mono ?_); rintro e w3 ⟨rfl, h3⟩; (have H3 := Lib.hid h3); clear h3)
        | (go_at_call 20; refine (H3.out.u8 p.proto HP.out.proto (by simp [be2_len])).mono ?_; rintro e w4 ⟨rfl, h4⟩; (have H4 := Lib.hid h4); clear h4)
        | (go_at_call 21; refine (H4.out.u16 c HC.out (by simp [be2_len])).mono ?_; rintro e w5 ⟨rfl, h5⟩; (have H5 := Lib.hid h5); clear h5))
    all_goals
      go_wp2_with fail
      go_meet
      exact ⟨rfl, H5.out⟩
  obtain ⟨rfl, h2⟩ := hcut
  have H2 := Lib.hid h2
  clear h2
  go_upto_region 4 with fail
  have X1 := Lib.hid (H2.out.drew.u32 p.src HP.out.src (by simp [be2_len]))
  have KS : Hid (∀ W', Below W.heap.size W W' → W'.cell? ⟨G, 7, none⟩ = some (.int .u32 p.src) ∧ W'.cell? ⟨G, 8, none⟩ = some (.int .u32 p.dst)) := fun W' h => ⟨(HX.out.below h).cells.2.2.2.2.2.2.2.1, (HX.out.below h).cells.2.2.2.2.2.2.2.2.1⟩
  have KD := Lib.hid (H2.out.drew.old)
  go_region_held_law (fun W' => W'.cell? ⟨G, 7, none⟩ = some (.int .u32 p.src) ∧ W'.cell? ⟨G, 8, none⟩ = some (.int .u32 p.dst))
    (first | assumption | exact KS.out _ KD.out | exact KS.out _ H5.out.2.2 | exact KS.out _ H4.out.old | exact KS.out _ H3.out.old)
    (first
      | (go_at_call 23; (with_reducible refine X1.out.mono ?_); rintro e w3 ⟨rfl, h3⟩; (have H3 := Lib.hid h3); clear h3)
      | (go_at_call 23; refine (H3.out.u32 p.dst HP.out.dst (by simp [be2_len, ibe4_len])).mono ?_; rintro e w4 ⟨rfl, h4⟩; (have H4 := Lib.hid h4); clear h4)
      | (go_at_call 14; refine (H4.out.finish (by simp [be2_len, ibe4_len])).mono ?_; rintro e w5 ⟨b, rfl, h5, h6, h7⟩; (have H5 := Lib.hid (And.intro h5 (And.intro h6 h7))); clear h5 h6 h7))
  all_goals
    go_wp2_with fail
    go_ret
    obtain rfl := HE.out
    exact ⟨b, rfl, by have h1 := H5.out.1; have h2 := HG.out; omega, H5.out.2.1, below_to HB.out H5.out.2.2 (Nat.le_of_lt HG.out)⟩
end Go.Proofs.YtdhndahoaobhpaaDoor
