/-
  What is proved: FragSpoilt by contract, out of those of package frag: the law returns true, and older memory is as it was.
  Conditions: those of the arguments; package frag's contracts, and that of 'shown', handed in.
  What is proved: the row and the tied card of FragSpoilt out of its function's contract.
  Conditions: the contract, handed in; the listed package-level variables start as the program's text lays them (the card ties them).
  What is proved: FragSpoilt: for any packet of which one part has a bit turned, the law holds; the law returns true and leaves its arguments as they were (the tied card).
  Conditions: the listed package-level variables start as the program's text lays them (the card ties them).
-/
import Derived.Test.YtfaimdopaocpkaaDoorMFg
import Derived.Deep.DeepCutAuto
import Derived.Deep.CutBlock
import Derived.StillTailTactics
import Derived.Test.YtfaimdopaocpkaaDoorVLift
import Derived.Test.YtfaimdopaocpkaaDoorCards
import Derived.Test.YtfaimdopaocpkaaDoorTie
import Derived.SevenTiedAt
import Derived.Test.YtfaimdopaocpkaaDoorMFs
namespace Go.Proofs.YtfaimdopaocpkaaDoor
open Go.RowKit

set_option maxRecDepth 100000 in
set_option maxHeartbeats 8000000 in
theorem fragSpoilt_of {R : World → Nat → (Nat → Prop) → Int → List Hp → Prop} (X : FgOk R) (XS : SpOk) (X0 : ∀ W, W.cell? ⟨0, 0, none⟩ = some (.iface 105 (.agg #[.pointer (some ⟨4, 35, none⟩)])) → Calls Tryd.prog 12 #[] W fun e w' => e = .returned (.bool true) ∧ Below W.heap.size W w')
    (p : Ip) (A : Option Addr) (c : Nat) (x1 x2 x3 x4 : Int) (by_ : Nat) (w : World) (hg : w.cell? ⟨0, 0, none⟩ = some (.iface 105 (.agg #[.pointer (some ⟨4, 35, none⟩)]))) (hfit : p.Fit) (hc : c ≤ 9223372036854775807) (hr : Rd w (.slice A p.b.length c) p.b) (hby : by_ < 256) :
    Calls Tryd.prog 8 #[.agg #[.int .u8 p.tos, .int .u16 p.id, .bool p.df, .bool p.mf, .int .i64 p.off, .int .u8 p.ttl, .int .u8 p.proto, .int .u32 p.src, .int .u32 p.dst, .slice A p.b.length c], .int .i64 x1, .int .i64 x2, .int .i64 x3, .int .i64 x4, .int .u8 (by_ : Int)] w fun e w' => e = .returned (.bool true) ∧ Below w.heap.size w w' := by
  obtain ⟨m0, hm0⟩ : ∃ m, bits .and .i64 x1 65535 = m := ⟨_, rfl⟩
  have b0 := and_bound x1 65535 (by omega) (by omega)
  rw [hm0] at b0
  obtain ⟨m1, hm1⟩ : ∃ m, m0.tmod 500 = m := ⟨_, rfl⟩
  have b1 : 0 ≤ m1 ∧ m1 ≤ 499 := by
    rw [Int.tmod_eq_emod_of_nonneg b0.1] at hm1
    omega
  obtain ⟨mtu, hmtu⟩ : ∃ m, 68 + m1 = m := ⟨_, rfl⟩
  have qm : IntKind.i64.wrap (68 + m1) = mtu := by rw [IntKind.wrap_i64]; omega
  have hmt : 68 ≤ mtu ∧ mtu ≤ 567 := by omega
  obtain ⟨m2, hm2⟩ : ∃ m, bits .and .i64 x2 65535 = m := ⟨_, rfl⟩
  have b2 := and_bound x2 65535 (by omega) (by omega)
  rw [hm2] at b2
  obtain ⟨m3, hm3⟩ : ∃ m, bits .and .i64 x3 65535 = m := ⟨_, rfl⟩
  have b3 := and_bound x3 65535 (by omega) (by omega)
  rw [hm3] at b3
  obtain ⟨m4, hm4⟩ : ∃ m, bits .and .i64 x4 65535 = m := ⟨_, rfl⟩
  have b4 := and_bound x4 65535 (by omega) (by omega)
  rw [hm4] at b4
  have Hfit := Lib.hid hfit
  have XSS := Lib.hid XS
  have XX := Lib.hid X
  have HGG := Lib.hid hg
  have hB0 : Below w.heap.size w (w.alloc (.cells #[.int .u8 p.tos, .int .u16 p.id, .bool p.df, .bool p.mf, .int .i64 p.off, .int .u8 p.ttl, .int .u8 p.proto, .int .u32 p.src, .int .u32 p.dst, .slice A p.b.length c] 27)) := (Below.refl _ w).alloc (Nat.le_refl _) _
  have X0 := Lib.hid (X0 _ ((hB0.cell (World.block_lt_of_cell? w _ hg)).trans hg))
  have M0 := Lib.hid (heap_alloc_new w (.cells #[.int .u8 p.tos, .int .u16 p.id, .bool p.df, .bool p.mf, .int .i64 p.off, .int .u8 p.ttl, .int .u8 p.proto, .int .u32 p.src, .int .u32 p.dst, .slice A p.b.length c] 27))
  have B0 := Lib.hid hB0
  have R0 := Lib.hid (hr.below hB0)
  have hfl : p.few.b.length ≤ 2000 := p.plain_len
  clear XS X hfit hg hB0 hr hmtu
  go_enter Tryd.func8, Tryd.ntmps8
  go_upto_region 1 with fail
  generalize w.alloc (.cells #[.int .u8 p.tos, .int .u16 p.id, .bool p.df, .bool p.mf, .int .i64 p.off, .int .u8 p.ttl, .int .u8 p.proto, .int .u32 p.src, .int .u32 p.dst, .slice A p.b.length c] 27) = w0 at X0 M0 B0 R0 ⊢
  obtain ⟨G, hG⟩ : ∃ G, w.heap.size = G := ⟨_, rfl⟩
  have HGe := Lib.hid hG
  rw [hG] at M0 B0 ⊢
  clear hG
  go_upto_region 2 with (go_at_call 12; (with_reducible refine X0.out.mono ?_); rintro e w1 ⟨rfl, hB⟩; (have B1 := Lib.hid hB); clear hB)
  have M1 := Lib.hid ((B1.out.block G (Array.getElem?_eq_some_iff.1 M0.out).1).trans M0.out)
  have R1 := Lib.hid (R0.out.below B1.out)
  have Bw1 := Lib.hid (below_to B0.out B1.out (by have := B0.out.size; have := (Array.getElem?_eq_some_iff.1 M0.out).1; omega))
  clear X0 M0 B0 R0 B1
  have XF := Lib.hid (few2_any p A c w1 R1.out hc)
  unfold FewTold Ip.val Ip.row at XF
  obtain ⟨c0, c1, c2, c3, c4, c5', c6, c7, c8, c9⟩ := IpAt.cells (p := p) (bv := .slice A p.b.length c) M1.out
  go_upto_region 3 with (first
    | (go_at_call 13; (with_reducible refine XF.out.mono ?_); rintro e w2 ⟨g5, c5, rfl, hr5, hg5, hB5, hcc5⟩; (have M2 := Lib.hid ((hB5.block G (Array.getElem?_eq_some_iff.1 M1.out).1).trans M1.out)); (have B2 := Lib.hid hB5); (have R2 := Lib.hid hr5); (have HC5 := Lib.hid hcc5); (have NG : Hid (g5 ≠ G) := Lib.hid (by have := (Array.getElem?_eq_some_iff.1 M1.out).1; omega)); clear hr5 hg5 hB5 hcc5)
    | (refine wpList_store_row rfl 27 (.tmp 6) (.tmp 27) rfl G #[.int .u8 p.tos, .int .u16 p.id, .bool p.df, .bool p.mf, .int .i64 p.off, .int .u8 p.ttl, .int .u8 p.proto, .int .u32 p.src, .int .u32 p.dst, .slice (some ⟨g5, 0, none⟩) p.few.b.length c5] rfl rfl 27 _ M2.out ipSize rfl (by simp [Value.oneCell']) ?_))
  have M3 := Lib.hid (setRow_heap _ _ _ #[.int .u8 p.tos, .int .u16 p.id, .bool p.df, .bool p.mf, .int .i64 p.off, .int .u8 p.ttl, .int .u8 p.proto, .int .u32 p.src, .int .u32 p.dst, .slice (some ⟨g5, 0, none⟩) p.few.b.length c5] _ _ M2.out)
  have R3 := Lib.hid (rd_row R2.out NG.out #[.int .u8 p.tos, .int .u16 p.id, .bool p.df, .bool p.mf, .int .i64 p.off, .int .u8 p.ttl, .int .u8 p.proto, .int .u32 p.src, .int .u32 p.dst, .slice (some ⟨g5, 0, none⟩) p.few.b.length c5])
  have Bw3 := Lib.hid (below_setRow (below_to Bw1.out B2.out (by have := Bw1.out.size; have := (Array.getElem?_eq_some_iff.1 M1.out).1; omega)) (Nat.le_refl G) #[.int .u8 p.tos, .int .u16 p.id, .bool p.df, .bool p.mf, .int .i64 p.off, .int .u8 p.ttl, .int .u8 p.proto, .int .u32 p.src, .int .u32 p.dst, .slice (some ⟨g5, 0, none⟩) p.few.b.length c5])
  generalize w2.setRow G #[.int .u8 p.tos, .int .u16 p.id, .bool p.df, .bool p.mf, .int .i64 p.off, .int .u8 p.ttl, .int .u8 p.proto, .int .u32 p.src, .int .u32 p.dst, .slice (some ⟨g5, 0, none⟩) p.few.b.length c5] = w3 at M3 R3 Bw3 ⊢
  clear c0 c1 c2 c3 c4 c5' c6 c7 c8 c9 XF R1 R2 B2 M1 M2 Bw1
  have MM4 : Hid ((((w3.setCell ⟨G, 4, none⟩ (.int .i64 0)).setCell ⟨G, 3, none⟩ (.bool false)).setCell ⟨G, 2, none⟩ (.bool false)).heap[G]? = some (.cells #[.int .u8 p.tos, .int .u16 p.id, .bool false, .bool false, .int .i64 0, .int .u8 p.ttl, .int .u8 p.proto, .int .u32 p.src, .int .u32 p.dst, .slice (some ⟨g5, 0, none⟩) p.few.b.length c5] 27)) := Lib.hid (by
    have h := M3.out
    unfold World.setCell
    simp only [Array.getElem?_modify, if_true, h, Option.map_some]
    rfl)
  have Bw4 := Lib.hid (((Bw3.out.setCell (p := ⟨G, 4, none⟩) (Nat.le_refl _) (.int .i64 0)).setCell (p := ⟨G, 3, none⟩) (Nat.le_refl _) (.bool false)).setCell (p := ⟨G, 2, none⟩) (Nat.le_refl _) (.bool false))
  have R4 := Lib.hid (rd_set (rd_set (rd_set R3.out NG.out 4 (.int .i64 0)) NG.out 3 (.bool false)) NG.out 2 (.bool false))
  have hf4 : w3.frozen? ⟨G, 4, none⟩ = false := by simp [World.frozen?, M3.out]
  have hf3 : w3.frozen? ⟨G, 3, none⟩ = false := by simp [World.frozen?, M3.out]
  have hf2 : w3.frozen? ⟨G, 2, none⟩ = false := by simp [World.frozen?, M3.out]
  have hc4 : w3.cell? ⟨G, 4, none⟩ = some (.int .i64 p.off) := by simp [World.cell?, M3.out]
  have hc3 : w3.cell? ⟨G, 3, none⟩ = some (.bool p.mf) := by simp [World.cell?, M3.out]
  have hc2 : w3.cell? ⟨G, 2, none⟩ = some (.bool p.df) := by simp [World.cell?, M3.out]
  go_upto_region 6 with fail
  generalize ((w3.setCell ⟨G, 4, none⟩ (.int .i64 0)).setCell ⟨G, 3, none⟩ (.bool false)).setCell ⟨G, 2, none⟩ (.bool false) = w4 at MM4 Bw4 R4 ⊢
  clear hf2 hf3 hf4 hc2 hc3 hc4 M3 Bw3 R3

  have XSp : Hid (Calls Tryd.prog 15 #[.agg #[.int .u8 p.tos, .int .u16 p.id, .bool false, .bool false, .int .i64 0, .int .u8 p.ttl, .int .u8 p.proto, .int .u32 p.src, .int .u32 p.dst, .slice (some ⟨g5, 0, none⟩) p.few.b.length c5], .int .i64 mtu] w4 (SplitVal p.plain mtu w4)) := Lib.hid (XSS.out p.plain (some ⟨g5, 0, none⟩) c5 mtu w4 (Ip.plain_in Hfit.out) hfl HC5.out (by omega) (by omega) R4.out)
  obtain ⟨c0, c1, c2, c3, c4, c5', c6, c7, c8, c9⟩ : w4.cell? ⟨G, 0, none⟩ = some (.int .u8 p.tos) ∧ w4.cell? ⟨G, 1, none⟩ = some (.int .u16 p.id) ∧ w4.cell? ⟨G, 2, none⟩ = some (.bool false) ∧ w4.cell? ⟨G, 3, none⟩ = some (.bool false) ∧ w4.cell? ⟨G, 4, none⟩ = some (.int .i64 0) ∧ w4.cell? ⟨G, 5, none⟩ = some (.int .u8 p.ttl) ∧ w4.cell? ⟨G, 6, none⟩ = some (.int .u8 p.proto) ∧ w4.cell? ⟨G, 7, none⟩ = some (.int .u32 p.src) ∧ w4.cell? ⟨G, 8, none⟩ = some (.int .u32 p.dst) ∧ w4.cell? ⟨G, 9, none⟩ = some (.slice (some ⟨g5, 0, none⟩) p.few.b.length c5) := IpAt.cells (p := p.plain) (bv := .slice (some ⟨g5, 0, none⟩) p.few.b.length c5) MM4.out
  go_upto_region 7 with (go_at_call 15; (with_reducible refine XSp.out.mono ?_); rintro e w5 ⟨l, A5, d5, ev, rfl, hl1, hl2, hE, hlm, hRP, hB⟩; (have E5 := Lib.hid hE); (have L5 := Lib.hid hlm); (have P5 := Lib.hid hRP); (have B5 := Lib.hid hB); clear hE hlm hRP hB)
  clear c0 c1 c2 c3 c4 c5' c6 c7 c8 c9 XSp
  have h0 := splitC_plain (p := p) hmt.1
  obtain rfl : ev = .nilIface := by
    rcases E5.out with ⟨_, h⟩ | ⟨h, _⟩
    · exact h
    · exact absurd h0 h
  have hlm := L5.out
  rw [if_pos h0] at hlm
  have HLM := Lib.hid hlm
  have Bw5 := Lib.hid (below_to (HGe.out ▸ Bw4.out : Below w.heap.size w w4) B5.out (HGe.out ▸ Bw4.out : Below w.heap.size w w4).size)
  have XN := Lib.hid (Fx.new XX.out (Below.refl w5.heap.size w5) (tm := 9) (by unfold UW; omega))
  clear h0 hlm E5 L5 MM4 Bw4 R4 B5
  go_upto_region 8 with (go_at_call 18; (with_reducible refine XN.out.mono ?_); rintro e w6 ⟨r, rfl, hF⟩; (have F6 := Lib.hid hF); clear hF)
  by_cases h2 : l.length < 2
  · have q2 : decide ((l.length : Int) < 2) = true := decide_eq_true (by omega)
    go_wp2_with fail
    go_ret
    exact ⟨rfl, below_to Bw5.out F6.out.base Bw5.out.size⟩
  · have q2 : decide ((l.length : Int) < 2) = false := decide_eq_false (by omega)
    have hLl : (splitL p.plain mtu).length = l.length := by rw [← HLM.out, List.length_map]
    have hn2 := splitL_le p.plain hmt.1
    have hpl := p.plain_len
    obtain ⟨hbne, hT, hbad⟩ := plain_tiles (p := p) hmt.1 (by omega)
    have HTl := Lib.hid hT
    have Hbn := Lib.hid hbne
    have Hbd := Lib.hid hbad
    obtain ⟨k1, hk1⟩ : ∃ k, l.length - 1 = k := ⟨_, rfl⟩
    have qs : IntKind.i64.wrap ((l.length : Int) - 1) = (k1 : Int) := by rw [IntKind.wrap_i64]; omega
    obtain ⟨k2, hk2⟩ : ∃ k, m2.toNat % k1 = k := ⟨_, rfl⟩
    have hk2l : k2 < k1 := by rw [← hk2]; exact Nat.mod_lt _ (by omega)
    have qk : m2.tmod (k1 : Int) = (k2 : Int) := by rw [← hk2]; exact mod_i64 (by omega) (by omega)
    obtain ⟨nn, hnn⟩ : ∃ k, 1 + k2 = k := ⟨_, rfl⟩
    have qn : IntKind.i64.wrap (1 + (k2 : Int)) = (nn : Int) := by rw [IntKind.wrap_i64]; omega
    have hnl : 1 ≤ nn ∧ nn < l.length := by omega
    have HLl := Lib.hid hLl
    have hk0 : 0 < k1 := by omega
    have hk00 : ((k1 : Int) == 0) = false := by rw [beq_eq_false_iff_ne]; omega
    clear hT hbne hbad hLl hn2 hpl hk1 hk2 hk2l hnn
    go_wp2_with fail
    go_loopw [17] (fun s17 wr => ∃ (i : Nat) (S : List Hp), s17 = .int .i64 (i : Int) ∧ i ≤ nn ∧ Fx R w5 (fun _ => False) wr r 9 S ∧ HeapIs S p.plain.key4 1 ((splitL p.plain mtu).take i) ∧ S.length = (if (splitL p.plain mtu).take i = [] then 0 else 1)) (fun s17 _ => nn - (intOf s17).toNat)
    case atStart => exact ⟨0, [], rfl, Nat.zero_le _, F6.out, .inl ⟨rfl, rfl⟩, rfl⟩
    case round =>
      obtain ⟨i, S, rfl, hi, hF, hH, hSl⟩ := hrel
      have HF := Lib.hid hF
      have HH := Lib.hid hH
      have HSl := Lib.hid hSl
      clear hF hH hSl F6
      by_cases hlt : i < nn
      · have q1 : decide ((i : Int) < (nn : Int)) = true := decide_eq_true (by omega)
        obtain ⟨x, hx⟩ : ∃ x, l[i]? = some x := ⟨l[i], List.getElem?_eq_getElem (by omega)⟩
        obtain ⟨g, o, rfl, hX, hI⟩ := (P5.out.below HF.out.base) i x hx
        have hxp : (splitL p.plain mtu)[i]? = some x.p := by rw [← HLM.out, List.getElem?_map, hx]; rfl
        have hsn : Hid ((splitL p.plain mtu).take (i + 1) = (splitL p.plain mtu).take i ++ [x.p]) := Lib.hid (by rw [List.take_add_one, hxp]; rfl)
        have Hxp := Lib.hid hxp
        obtain ⟨gx, hgx⟩ : ∃ g, (splitL p.plain mtu)[i + 1]? = some g := ⟨_, List.getElem?_eq_getElem (by rw [HLl.out]; omega)⟩
        have Hgx := Lib.hid hgx
        have hne : Hid (gx ≠ x.p) := Lib.hid (fun e => by
          rw [e] at hgx
          have := nodup_inj HTl.out.nodup hxp hgx
          omega)
        have hI5 : Pv.In w5 x := by
          obtain ⟨_, _, _, _, h⟩ := P5.out i x hx
          exact h
        have XT := Lib.hid (HF.out.take XX.out (now := 1) hI.inn hI.few (by unfold UW; omega) hI.cap hI.rd (fun hb a ha => .inl (rd_old hI5.rd hb a ha)))
        obtain ⟨c0, c1, c2, c3, c4, c5', c6, c7, c8, c9⟩ := hX
        clear hx hxp hI hgx
        go_upto_region 17 with (first
          | (go_at_call 19; (with_reducible refine XT.out.mono ?_); rintro e w7 ⟨S7, o7, n7, b7, hTR, hV, hF7, _⟩; (have TT := take_tile rfl rfl Hbn.out HTl.out (by rw [HLl.out]; omega) Hbd.out (HF.out.un XX.out).1 (by rw [HSl.out]; split <;> omega) HH.out (fun y hy => List.mem_of_mem_take hy) (List.mem_of_getElem? Hxp.out) (fun _ => rfl) hTR); (obtain ⟨rfl, rfl, rfl, hH7, hS7⟩ := TT.2 ⟨gx, List.mem_of_getElem? Hgx.out, fun h => h.elim (take_lt HTl.out.nodup Hgx.out (by omega)) hne.out⟩); (obtain ⟨B6, d6, ev7, rfl, _, hE7⟩ := hV); (obtain rfl : ev7 = .nilIface := by (rcases hE7 with ⟨_, h⟩ | ⟨h, _⟩; exact h; exact absurd rfl h)); (have F7 := Lib.hid hF7); (have H7 := Lib.hid hH7); (have S7l := Lib.hid hS7); clear hTR TT hF7 hH7 hS7 hE7)
          | (refine wpList_store_row rfl 27 (.tmp 18) (.tmp 70) rfl w7.heap.size #[.int .u8 noIp.tos, .int .u16 noIp.id, .bool noIp.df, .bool noIp.mf, .int .i64 noIp.off, .int .u8 noIp.ttl, .int .u8 noIp.proto, .int .u32 noIp.src, .int .u32 noIp.dst, .slice B6 noIp.b.length d6] rfl rfl 27 _ (heap_alloc_new w7 _) ipSize rfl (by simp [Value.oneCell']) ?_; rw [setRow_alloc]))
        clear c0 c1 c2 c3 c4 c5' c6 c7 c8 c9 XT
        have B8 := Lib.hid ((Below.refl w7.heap.size w7).alloc (Nat.le_refl _) (.cells #[.int .u8 noIp.tos, .int .u16 noIp.id, .bool noIp.df, .bool noIp.mf, .int .i64 noIp.off, .int .u8 noIp.ttl, .int .u8 noIp.proto, .int .u32 noIp.src, .int .u32 noIp.dst, .slice B6 noIp.b.length d6] 27))
        generalize w7.alloc (.cells #[.int .u8 noIp.tos, .int .u16 noIp.id, .bool noIp.df, .bool noIp.mf, .int .i64 noIp.off, .int .u8 noIp.ttl, .int .u8 noIp.proto, .int .u32 noIp.src, .int .u32 noIp.dst, .slice B6 noIp.b.length d6] 27) = w8 at B8 ⊢
        go_wp2_with fail
        exact ⟨⟨i + 1, S7, by simp, by omega, F7.out.to XX.out B8.out, by rw [hsn.out]; exact H7.out, by rw [hsn.out, S7l.out, HSl.out]; exact len_step _ _⟩, by simp [intOf]; omega⟩
      · have q1 : decide ((i : Int) < (nn : Int)) = false := decide_eq_false (by omega)
        obtain rfl : i = nn := by omega
        obtain ⟨wi, hwi⟩ : ∃ k, m3.toNat % i = k := ⟨_, rfl⟩
        have hwl : wi < i := by rw [← hwi]; exact Nat.mod_lt _ (by omega)
        have qw : m3.tmod (i : Int) = (wi : Int) := by rw [← hwi]; exact mod_i64 (by omega) (by omega)
        obtain ⟨x, hx⟩ : ∃ x, l[wi]? = some x := ⟨l[wi], List.getElem?_eq_getElem (by omega)⟩
        obtain ⟨g, o, rfl, hX, hI⟩ := (P5.out.below HF.out.base) wi x hx
        have hxp : (splitL p.plain mtu)[wi]? = some x.p := by rw [← HLM.out, List.getElem?_map, hx]; rfl
        obtain ⟨ca, na, _, hna, hca, hxe⟩ := HTl.out.mem (List.mem_of_getElem? hxp)
        have hxl : 0 < x.p.b.length := by rw [hxe, seg_len_in hca]; exact hna
        obtain ⟨gx, hgx⟩ : ∃ g, (splitL p.plain mtu)[i]? = some g := ⟨_, List.getElem?_eq_getElem (by rw [HLl.out]; omega)⟩
        obtain ⟨j, hj⟩ : ∃ k, m4.toNat % x.p.b.length = k := ⟨_, rfl⟩
        have hjl : j < x.p.b.length := by rw [← hj]; exact Nat.mod_lt _ hxl
        have qj : m4.tmod (x.p.b.length : Int) = (j : Int) := by rw [← hj]; exact mod_i64 (by omega) hxl
        obtain ⟨u0, hu0⟩ : ∃ u, x.p.b[j]? = some u := ⟨_, List.getElem?_eq_getElem hjl⟩
        obtain ⟨u1, hu1, hu2⟩ := fbyte_xor u0 by_ hby
        have hs1 := HSl.out
        have hsne : (splitL p.plain mtu).take i ≠ [] := fun e => by
          have := congrArg List.length e
          rw [List.length_take, HLl.out, List.length_nil] at this
          omega
        rw [if_neg hsne] at hs1
        have HAl : Hid (¬ Alone { x.p with b := x.p.b.set j u1 } ∧ ({ x.p with b := x.p.b.set j u1 } : Ip).key4 = p.plain.key4) := Lib.hid (tile_part (x := x.p) rfl rfl HTl.out (by rw [HLl.out]; omega) (List.mem_of_getElem? hxp))
        have Hs1 := Lib.hid hs1
        have Hsne := Lib.hid hsne
        have HI := Lib.hid hI
        have Hxp := Lib.hid hxp
        have Hgx := Lib.hid hgx
        have Hu := Lib.hid hu0
        have hx0 : ((x.p.b.length : Int) == 0) = false := by rw [beq_eq_false_iff_ne]; omega
        have hi0 : ((i : Int) == 0) = false := by rw [beq_eq_false_iff_ne]; omega
        have hxf := hI.few
        obtain ⟨c0, c1, c2, c3, c4, c5', c6, c7, c8, c9⟩ := hX
        clear hs1 hsne hI hxp hgx hu0 hx hxe hwi hj hca hna
        go_upto_region 20 with (refine wpList_store_row rfl 27 (.tmp 21) (.tmp 84) rfl wr.heap.size #[.int .u8 x.p.tos, .int .u16 x.p.id, .bool x.p.df, .bool x.p.mf, .int .i64 x.p.off, .int .u8 x.p.ttl, .int .u8 x.p.proto, .int .u32 x.p.src, .int .u32 x.p.dst, .slice x.B x.p.b.length x.c] rfl rfl 27 _ (heap_alloc_new wr _) ipSize rfl (by simp [Value.oneCell']) ?_; rw [setRow_alloc])
        clear c0 c1 c2 c3 c4 c5' c6 c7 c8 c9
        have hB9 : Below wr.heap.size wr (wr.alloc (.cells #[.int .u8 x.p.tos, .int .u16 x.p.id, .bool x.p.df, .bool x.p.mf, .int .i64 x.p.off, .int .u8 x.p.ttl, .int .u8 x.p.proto, .int .u32 x.p.src, .int .u32 x.p.dst, .slice x.B x.p.b.length x.c] 27)) := (Below.refl _ wr).alloc (Nat.le_refl _) _
        have B9 := Lib.hid hB9
        have MM9 := Lib.hid (heap_alloc_new wr (.cells #[.int .u8 x.p.tos, .int .u16 x.p.id, .bool x.p.df, .bool x.p.mf, .int .i64 x.p.off, .int .u8 x.p.ttl, .int .u8 x.p.proto, .int .u32 x.p.src, .int .u32 x.p.dst, .slice x.B x.p.b.length x.c] 27))
        have R9 := Lib.hid (HI.out.rd.below hB9)
        clear hB9
        generalize wr.alloc (.cells #[.int .u8 x.p.tos, .int .u16 x.p.id, .bool x.p.df, .bool x.p.mf, .int .i64 x.p.off, .int .u8 x.p.ttl, .int .u8 x.p.proto, .int .u32 x.p.src, .int .u32 x.p.dst, .slice x.B x.p.b.length x.c] 27) = w9 at B9 MM9 R9 ⊢
        obtain ⟨Gx, hGx⟩ : ∃ G, wr.heap.size = G := ⟨_, rfl⟩
        have HGx := Lib.hid hGx
        rw [hGx] at MM9 ⊢
        clear hGx
        have hGl := (Array.getElem?_eq_some_iff.1 MM9.out).1
        obtain ⟨g9, c9', w10, run1, mine1, hg1, hkeep, _⟩ := (Mine.first B9.out).append x.p.b (.slice x.B x.p.b.length x.c) (R9.out.below (below_al (Below.refl _ _) _)) (by simp; omega)
        rw [List.nil_append] at run1 mine1
        have NGx : Hid (g9 ≠ Gx) := Lib.hid (by
          rcases hg1 with e | e
          · omega
          · rw [e, World.size_alloc]; omega)
        have hM10 : w10.heap[Gx]? = some (.cells #[.int .u8 x.p.tos, .int .u16 x.p.id, .bool x.p.df, .bool x.p.mf, .int .i64 x.p.off, .int .u8 x.p.ttl, .int .u8 x.p.proto, .int .u32 x.p.src, .int .u32 x.p.dst, .slice x.B x.p.b.length x.c] 27) := (hkeep Gx (by rw [World.size_alloc]; omega) (by omega)).trans ((((Below.refl _ w9).alloc (Nat.le_refl _) _).block Gx hGl).trans MM9.out)
        have E1 := Lib.hid run1
        have MI := Lib.hid mine1
        have b0 : w9.cell? ⟨Gx, 9, none⟩ = some (.slice x.B x.p.b.length x.c) := by simp [World.cell?, MM9.out]
        have e9 : (w9.alloc (.cells #[] 5)).cell? ⟨Gx, 9, none⟩ = some (.slice x.B x.p.b.length x.c) := (((Below.refl _ w9).alloc (Nat.le_refl _) _).cell hGl).trans b0
        have d9 : w10.cell? ⟨Gx, 9, none⟩ = some (.slice x.B x.p.b.length x.c) := by simp [World.cell?, hM10]
        have f9 : w10.frozen? ⟨Gx, 9, none⟩ = false := by simp [World.frozen?, hM10]
        have HM10 := Lib.hid hM10
        clear run1 mine1 hg1 hkeep hM10
        go_upto_region 21 with (at_builtin; refine wpList_append_eq rfl (.tmp 85) (.tmp 87) 25 rfl _ _ rfl rfl _ _ E1.out ?_)
        have HM11 : Hid ((w10.setCell ⟨Gx, 9, none⟩ (.slice (some ⟨g9, 0, none⟩) x.p.b.length c9')).heap[Gx]? = some (.cells #[.int .u8 x.p.tos, .int .u16 x.p.id, .bool x.p.df, .bool x.p.mf, .int .i64 x.p.off, .int .u8 x.p.ttl, .int .u8 x.p.proto, .int .u32 x.p.src, .int .u32 x.p.dst, .slice (some ⟨g9, 0, none⟩) x.p.b.length c9'] 27)) := Lib.hid (by
          have h := HM10.out
          unfold World.setCell
          simp only [Array.getElem?_modify, if_true, h, Option.map_some]
          rfl)
        have MI11 := Lib.hid (MI.out.setOther (i := 9) NGx.out (by rw [HGx.out]; exact Nat.le_refl _) (.slice (some ⟨g9, 0, none⟩) x.p.b.length c9'))
        generalize w10.setCell ⟨Gx, 9, none⟩ (.slice (some ⟨g9, 0, none⟩) x.p.b.length c9') = w11 at HM11 MI11 ⊢
        clear b0 e9 d9 f9 E1 MI HM10 MM9 R9 B9 hGl
        refine wp_region_still_tail 21 (by kernel_rfl) (by kernel_rfl) ?_
        generalize hD : ({ w11 with drawn := w11.drawn + 1 } : World) = D
        have HD : D = w11.drewN 1 := hD.symm
        have HMD : Hid (D.heap[Gx]? = some (.cells #[.int .u8 x.p.tos, .int .u16 x.p.id, .bool x.p.df, .bool x.p.mf, .int .i64 x.p.off, .int .u8 x.p.ttl, .int .u8 x.p.proto, .int .u32 x.p.src, .int .u32 x.p.dst, .slice (some ⟨g9, 0, none⟩) x.p.b.length c9'] 27)) := Lib.hid (by rw [HD]; exact HM11.out)
        have MID : Hid (Mine wr D g9 c9' x.p.b) := Lib.hid (by rw [HD]; exact MI11.out.drewN 1)
        have d9 : D.cell? ⟨Gx, 9, none⟩ = some (.slice (some ⟨g9, 0, none⟩) x.p.b.length c9') := by simp [World.cell?, HMD.out]
        have dj := MID.out.cell j u0 Hu.out
        have fj := MID.out.free j
        have hcl := MID.out.rd.cap_le
        clear HD hD HM11 MI11
        simp only [List.take_succ_cons, List.take_zero, List.drop_succ_cons, List.drop_zero]
        have hxnil : ¬ x.p.b = [] := fun e => by rw [e] at hjl; exact Nat.not_lt_zero _ hjl
        repeat still_step
        refine wpStill_nil ?_
        go_upto_region 22 with fail
        have MI12 : Hid (Mine wr (D.setCell ⟨g9, j, none⟩ (.int .u8 (u1.toNat : Int))) g9 c9' (x.p.b.set j u1)) := Lib.hid (MID.out.set j u1)
        have HM12 : Hid ((D.setCell ⟨g9, j, none⟩ (.int .u8 (u1.toNat : Int))).heap[Gx]? = some (.cells #[.int .u8 x.p.tos, .int .u16 x.p.id, .bool x.p.df, .bool x.p.mf, .int .i64 x.p.off, .int .u8 x.p.ttl, .int .u8 x.p.proto, .int .u32 x.p.src, .int .u32 x.p.dst, .slice (some ⟨g9, 0, none⟩) x.p.b.length c9'] 27)) := Lib.hid ((Below.heap_setCell _ _ _ _ NGx.out.symm).trans HMD.out)
        generalize D.setCell ⟨g9, j, none⟩ (.int .u8 (u1.toNat : Int)) = w12 at MI12 HM12 ⊢
        clear d9 dj fj hcl HMD MID
        have XT2 : Hid (Calls Tryd.prog 19 #[.pointer (some ⟨r, 0, none⟩), .agg #[.int .u8 x.p.tos, .int .u16 x.p.id, .bool x.p.df, .bool x.p.mf, .int .i64 x.p.off, .int .u8 x.p.ttl, .int .u8 x.p.proto, .int .u32 x.p.src, .int .u32 x.p.dst, .slice (some ⟨g9, 0, none⟩) x.p.b.length c9'], .int .u64 1] w12 fun e w' =>
            ∃ S' o n b, TakeR S { x.p with b := x.p.b.set j u1 } 1 S' o n b ∧ TakeVal o n b e w' ∧ Fx R w5 (fun _ => False) w' r 9 S' ∧ ∀ k, False → w'.heap[k]? = w12.heap[k]?) := Lib.hid (by
          have h := HF.out.takeN XX.out MI12.out.old (p := { x.p with b := x.p.b.set j u1 }) (now := 1) ⟨HI.out.inn.tos, HI.out.inn.id, HI.out.inn.off, HI.out.inn.ttl, HI.out.inn.proto, HI.out.inn.src, HI.out.inn.dst, by show (x.p.b.set j u1).length ≤ _; rw [List.length_set]; exact HI.out.inn.b⟩ (by show (x.p.b.set j u1).length ≤ _; rw [List.length_set]; exact HI.out.few) (by unfold UW; omega) (by have := MI12.out.cap; unfold maxLen at this; omega) MI12.out.rd (fun _ a ha => by cases ha; exact MI12.out.new)
          simp only [List.length_set] at h
          exact h)
        obtain ⟨c0, c1, c2, c3, c4, c5', c6, c7, c8, c9⟩ := IpAt.cells (p := x.p) (bv := .slice (some ⟨g9, 0, none⟩) x.p.b.length c9') HM12.out
        by_cases hz : by_ = 0
        · have qz : ((by_ : Int) == 0) = true := by rw [beq_iff_eq]; omega
          go_upto_region 23 with (first
            | (go_at_call 19; (with_reducible refine XT2.out.mono ?_); rintro e w13 ⟨S7, o7, n7, b7, hTR, hV, hF7, _⟩; (have hx2 : ({ x.p with b := x.p.b.set j u1 } : Ip) = x.p := by rw [hu2.2 hz, set_same Hu.out]); (rw [hx2] at hTR); (have TT := take_tile rfl rfl Hbn.out HTl.out (by rw [HLl.out]; omega) Hbd.out (HF.out.un XX.out).1 (by rw [Hs1.out]; omega) HH.out (fun y hy => List.mem_of_mem_take hy) (List.mem_of_getElem? Hxp.out) (fun _ => rfl) hTR); (obtain ⟨rfl, rfl, rfl, hH7, hS7⟩ := TT.2 ⟨gx, List.mem_of_getElem? Hgx.out, fun h => h.elim (take_lt HTl.out.nodup Hgx.out (by omega)) (fun e => by have h1 := Hgx.out; have h2 := Hxp.out; rw [e] at h1; have := nodup_inj HTl.out.nodup h1 h2; omega)⟩); (rw [Hs1.out, if_neg Hsne.out] at hS7); (obtain ⟨B6, d6, ev7, rfl, _, hE7⟩ := hV); (obtain rfl : ev7 = .nilIface := by (rcases hE7 with ⟨_, h⟩ | ⟨h, _⟩; exact h; exact absurd rfl h)); (have F7 := Lib.hid hF7); (have S7l := Lib.hid hS7); clear hTR TT hF7 hH7 hS7 hE7)
            | (refine wpList_store_row rfl 27 (.tmp 22) (.tmp 115) rfl w13.heap.size #[.int .u8 noIp.tos, .int .u16 noIp.id, .bool noIp.df, .bool noIp.mf, .int .i64 noIp.off, .int .u8 noIp.ttl, .int .u8 noIp.proto, .int .u32 noIp.src, .int .u32 noIp.dst, .slice B6 noIp.b.length d6] rfl rfl 27 _ (heap_alloc_new w13 _) ipSize rfl (by simp [Value.oneCell']) ?_; rw [setRow_alloc]))
          clear c0 c1 c2 c3 c4 c5' c6 c7 c8 c9 XT2
          have B14 := Lib.hid ((Below.refl w13.heap.size w13).alloc (Nat.le_refl _) (.cells #[.int .u8 noIp.tos, .int .u16 noIp.id, .bool noIp.df, .bool noIp.mf, .int .i64 noIp.off, .int .u8 noIp.ttl, .int .u8 noIp.proto, .int .u32 noIp.src, .int .u32 noIp.dst, .slice B6 noIp.b.length d6] 27))
          generalize w13.alloc (.cells #[.int .u8 noIp.tos, .int .u16 noIp.id, .bool noIp.df, .bool noIp.mf, .int .i64 noIp.off, .int .u8 noIp.ttl, .int .u8 noIp.proto, .int .u32 noIp.src, .int .u32 noIp.dst, .slice B6 noIp.b.length d6] 27) = w14 at B14 ⊢
          have F14 := Lib.hid (F7.out.to XX.out B14.out)
          have XL := Lib.hid (F14.out.len XX.out)
          rw [S7l.out] at XL
          go_wp2_with (go_at_call 20; (with_reducible refine XL.out.mono ?_); rintro e w15 ⟨rfl, hw15⟩; subst w15)
          go_ret
          exact ⟨rfl, below_to Bw5.out F14.out.base Bw5.out.size⟩
        · go_upto_region 23 with (first
            | (go_at_call 19; (with_reducible refine XT2.out.mono ?_); rintro e w13 ⟨S7, o7, n7, b7, hTR, hV, hF7, _⟩; (obtain ⟨rfl, rfl, rfl, rfl⟩ := spoil HH.out (take_mem Hxp.out hwl) Hs1.out (by rw [set_bad]; exact Hbd.out _ (List.mem_of_getElem? Hxp.out)) HAl.out.1 HAl.out.2 (turn_goes hjl (by rw [Hu.out]; intro e; exact hz (hu2.1 (Option.some.inj e).symm))) hTR); (obtain ⟨B6, d6, ev7, rfl, _, hE7⟩ := hV); (have F7 := Lib.hid hF7); (have E7 := Lib.hid hE7); clear hTR hF7 hE7)
            | (refine wpList_store_row rfl 27 (.tmp 22) (.tmp 115) rfl w13.heap.size #[.int .u8 noIp.tos, .int .u16 noIp.id, .bool noIp.df, .bool noIp.mf, .int .i64 noIp.off, .int .u8 noIp.ttl, .int .u8 noIp.proto, .int .u32 noIp.src, .int .u32 noIp.dst, .slice B6 noIp.b.length d6] rfl rfl 27 _ (heap_alloc_new w13 _) ipSize rfl (by simp [Value.oneCell']) ?_; rw [setRow_alloc]))
          clear c0 c1 c2 c3 c4 c5' c6 c7 c8 c9 XT2
          have B14 := Lib.hid ((Below.refl w13.heap.size w13).alloc (Nat.le_refl _) (.cells #[.int .u8 noIp.tos, .int .u16 noIp.id, .bool noIp.df, .bool noIp.mf, .int .i64 noIp.off, .int .u8 noIp.ttl, .int .u8 noIp.proto, .int .u32 noIp.src, .int .u32 noIp.dst, .slice B6 noIp.b.length d6] 27))
          generalize w13.alloc (.cells #[.int .u8 noIp.tos, .int .u16 noIp.id, .bool noIp.df, .bool noIp.mf, .int .i64 noIp.off, .int .u8 noIp.ttl, .int .u8 noIp.proto, .int .u32 noIp.src, .int .u32 noIp.dst, .slice B6 noIp.b.length d6] 27) = w14 at B14 ⊢
          have F14 := Lib.hid (F7.out.to XX.out B14.out)
          have XL := Lib.hid (F14.out.len XX.out)
          obtain ⟨y7, rfl, hch⟩ : ∃ x : Nat, ev7 = .iface 86 (.pointer (some ⟨x, 0, none⟩)) ∧ Chain w13 (3 : Nat) [fragWord] ev7 := by
            rcases E7.out with ⟨h, _⟩ | ⟨_, h⟩
            · cases h
            · exact h
          have hbw := below_to Bw5.out F14.out.base Bw5.out.size
          have XC := Lib.hid (code_any _ _ _ w14 ((hbw.cell (World.block_lt_of_cell? w _ HGG.out)).trans HGG.out) (hch.below B14.out))
          have XL := Lib.hid (fun W (hb : Below w14.heap.size w14 W) => (F14.out.to XX.out hb).len XX.out)
          have qz : ((by_ : Int) == 0) = false := by rw [beq_eq_false_iff_ne]; omega
          clear hch hbw E7
          go_wp2_with (first
            | (go_at_call 23; (with_reducible refine XC.out.mono ?_); rintro e w15 ⟨rfl, hB15⟩; (have B15 := Lib.hid hB15); clear hB15)
            | (go_at_call 20; (with_reducible refine (XL.out _ B15.out).mono ?_); rintro e w16 ⟨rfl, hw16⟩; subst w16))
          go_ret
          exact ⟨rfl, below_to Bw5.out (F14.out.to XX.out B15.out).base Bw5.out.size⟩
end Go.Proofs.YtfaimdopaocpkaaDoor
namespace Go.Proofs.YtfaimdopaocpkaaDoor
open Go Go.ChangeShapes Go.WideShapes Go.RowKit

/-- The contract. -/
def FragSpoiltDoes : Prop := ∀ (p0 : Ip) (A0 : Option Addr) (c0 : Nat) (n1 : Int) (n2 : Int) (n3 : Int) (n4 : Int) (n5 : Nat) (w : World), Hdl w → p0.Fit → Rd w (.slice A0 p0.b.length c0) p0.b → c0 ≤ 9223372036854775807 → -9223372036854775808 ≤ n1 → n1 ≤ 9223372036854775807 → -9223372036854775808 ≤ n2 → n2 ≤ 9223372036854775807 → -9223372036854775808 ≤ n3 → n3 ≤ 9223372036854775807 → -9223372036854775808 ≤ n4 → n4 ≤ 9223372036854775807 → n5 < 256 → Calls Tryd.prog 8 #[p0.val (.slice A0 p0.b.length c0), .int .i64 n1, .int .i64 n2, .int .i64 n3, .int .i64 n4, .int .u8 (n5 : Int)] w fun e w' => e = .returned (.bool true) ∧ Below w.heap.size w w'

set_option maxRecDepth 100000 in
theorem fragSpoilt_lifted (hc : FragSpoiltDoes) (os : Os) (started : os.Started) (H : Type) (enc : TypeId × Value → H) :
    ReturnsInHanded {} Tryd.checked os 8 .any (fun w args => (Rows.fragSpoiltSpec.pre enc Tryd.prog Tryd.f8 [] false w args ∧ laidMetH Tryd.prog laidList w) ∧ sizedMet enc Tryd.prog Tryd.f8 (OpenSpec.ofChange Rows.fragSpoiltSpec) false w args)
      (Rows.fragSpoiltSpec.post enc Tryd.prog Tryd.f8 false true false false) := by
  refine returnsInHanded_of_change_and (C := Tryd.checked) (X := fun w _ => laidMetH Tryd.prog laidList w) (fun _ _ _ hh h => h.of_heap hh) ownGodebug started (by kernel_rfl) Tryd.func8
    (ChangeSpec.witness_at (enc := enc) (C := Tryd.checked) (os := os) (X := fun w _ => laidMetH Tryd.prog laidList w) false (laidWorld os) #[.agg #[.int .u8 0, .int .u16 0, .bool false, .bool false, .int .i64 0, .int .u8 0, .int .u8 0, .int .u32 0, .int .u32 0, .slice none 0 0], .int .i64 0, .int .i64 0, .int .i64 0, .int .i64 0, .int .u8 0] 8 rfl (by kernel_rfl) (by kernel_rfl) (by kernel_rfl) (by kernel_rfl) (by kernel_rfl) (laidWorld_met os _)) ?_
  intro W base args ds gs before hval0 hW _ _ hL _
  have hval : ∀ (j : Nat) t v, Tryd.f8.params[j]? = some t → args[j]? = some v → Value.okWide Tryd.prog W .any base t v := hval0
  have hW' := hW
  obtain ⟨p, q, hA0, hV0, rfl, hfz, hnd⟩ := hW
  have hA : DataW.TrodAll enc Tryd.prog W 0 (fun _ => true) true Tryd.f8.params.toList args.toList ds p := hA0
  have hV : DataW.TrodVars enc Tryd.prog W (fun _ => true) [] gs q := hV0
  rw [Tryd.params8] at hA hval
  obtain ⟨v0, vs0, d0, ds0, p0, q0, hargs, rfl, rfl, h0, r0⟩ := trodAll_cons hA
  obtain ⟨v1, vs1, d1, ds1, p1, q1, rfl, rfl, rfl, h1, r1⟩ := trodAll_cons r0
  obtain ⟨v2, vs2, d2, ds2, p2, q2, rfl, rfl, rfl, h2, r2⟩ := trodAll_cons r1
  obtain ⟨v3, vs3, d3, ds3, p3, q3, rfl, rfl, rfl, h3, r3⟩ := trodAll_cons r2
  obtain ⟨v4, vs4, d4, ds4, p4, q4, rfl, rfl, rfl, h4, r4⟩ := trodAll_cons r3
  obtain ⟨v5, vs5, d5, ds5, p5, q5, rfl, rfl, rfl, h5, r5⟩ := trodAll_cons r4
  obtain ⟨rfl, rfl, rfl⟩ := trodAll_nil r5
  obtain rfl : args = #[v0, v1, v2, v3, v4, v5] := by cases args; simpa using hargs
  obtain ⟨rfl, rfl⟩ := trodVars_none hV
  obtain ⟨p0, A0, c0, rfl, b0, e0, a0⟩ := open_ip (hval 0 27 v0 rfl rfl) h0
  obtain ⟨n1, rfl, rfl, rfl, w1⟩ := open_int Tryd.underlying3 (hval 1 3 v1 rfl rfl) h1
  obtain ⟨n2, rfl, rfl, rfl, w2⟩ := open_int Tryd.underlying3 (hval 2 3 v2 rfl rfl) h2
  obtain ⟨n3, rfl, rfl, rfl, w3⟩ := open_int Tryd.underlying3 (hval 3 3 v3 rfl rfl) h3
  obtain ⟨n4, rfl, rfl, rfl, w4⟩ := open_int Tryd.underlying3 (hval 4 3 v4 rfl rfl) h4
  obtain ⟨z5, rfl, rfl, rfl, w5⟩ := open_int Tryd.underlying5 (hval 5 5 v5 rfl rfl) h5
  obtain ⟨n5, rfl, b5⟩ := u8n_wf w5
  refine (hc p0 A0 c0 n1 n2 n3 n4 n5 W (hdl_of_laid hL) a0 e0 b0 (i64_wf w1).1 (i64_wf w1).2 (i64_wf w2).1 (i64_wf w2).2 (i64_wf w3).1 (i64_wf w3).2 (i64_wf w4).1 (i64_wf w4).2 b5).mono fun e W' ⟨he, hb⟩ => ?_
  subst he
  exact ⟨_, rfl, law_post rfl rfl rfl (by rw [Tryd.params8]; intro t ht; simp at ht; (first | (rcases ht with rfl | rfl | rfl | rfl | rfl | rfl) | (rcases ht with rfl | rfl | rfl)) <;> (try subst ht) <;> exact ⟨by kernel_rfl, by rw [typesSize]; decide⟩) hW' hb⟩
theorem fragSpoilt_row (hc : FragSpoiltDoes) : Rows.FragSpoiltSaid :=
  OpenClaim.holds_of_wide 8 Tryd.f8 rfl rfl rfl rfl rfl rfl rfl ⟨rfl, rfl, rfl, rfl, rfl⟩ rfl rfl rfl rfl rfl (by kernel_rfl) Tryd.func8 (by kernel_rfl)
    (of_decide_eq_true (by kernel_rfl)) (by unfold Func.isWrapper; rw [if_neg (of_decide_eq_false (by kernel_rfl))]; exact ⟨rfl, rfl⟩)
    (fun os started H enc _ => fragSpoilt_lifted hc os started H enc)
theorem fragSpoilt_card (hrow : Rows.FragSpoiltSaid) : Rows.FragSpoiltCardSaid :=
  Claim7.holds_tied_plain_at .later [] [.handle] true _ true
    hrow (fun _ h => by cases h) (by kernel_rfl) (fun _ h => by cases h) fragSpoilt_row_tie rfl ⟨rfl, rfl⟩ (by kernel_rfl) rfl
    (fun f fn hf hfn => by
      obtain rfl : f = 8 := Option.some.inj ((show Tryd.prog.funcNamed "underpass/underpasslaw10.FragSpoilt" = some 8 by kernel_rfl).symm.trans hf) |>.symm
      obtain rfl : fn = Tryd.f8 := (Option.some.inj (Tryd.func8.symm.trans hfn)).symm
      exact ⟨by kernel_rfl, fun j t ht => by
        rw [Tryd.params8] at ht
        rcases j with _ | _ | _ | _ | _ | _ | j
        · have h3 : t = 27 := by simpa using ht.symm
          subst h3
          exact (show Tryd.prog.wantsStandIn 27 = false by kernel_rfl)
        · have h3 : t = 3 := by simpa using ht.symm
          subst h3
          exact (show Tryd.prog.wantsStandIn 3 = false by kernel_rfl)
        · have h3 : t = 3 := by simpa using ht.symm
          subst h3
          exact (show Tryd.prog.wantsStandIn 3 = false by kernel_rfl)
        · have h3 : t = 3 := by simpa using ht.symm
          subst h3
          exact (show Tryd.prog.wantsStandIn 3 = false by kernel_rfl)
        · have h3 : t = 3 := by simpa using ht.symm
          subst h3
          exact (show Tryd.prog.wantsStandIn 3 = false by kernel_rfl)
        · have h3 : t = 5 := by simpa using ht.symm
          subst h3
          exact (show Tryd.prog.wantsStandIn 5 = false by kernel_rfl)
        · simp at ht⟩)
    (by kernel_rfl)
end Go.Proofs.YtfaimdopaocpkaaDoor
namespace Go.Proofs.YtfaimdopaocpkaaDoor
theorem fragSpoilt_any : FragSpoiltDoes := fun p A c x y z u b w hg hf hr hc _ _ _ _ _ _ _ _ hb => fragSpoilt_of frag_ok split_ok fshown_any p A c x y z u b w hg hf hc hr hb
theorem fragSpoilt_holds : Rows.FragSpoiltCardSaid := fragSpoilt_card (fragSpoilt_row fragSpoilt_any)
end Go.Proofs.YtfaimdopaocpkaaDoor
