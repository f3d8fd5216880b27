/-
  What is proved: FragGap by contract, out of those of package frag: the law returns true, and older memory is as it was.
  Conditions: those of the arguments; package frag's contracts, and that of 'shown', handed in.
  What is proved: the row and the tied card of FragGap out of its function's contract.
  Conditions: the contract, handed in; the listed package-level variables start as the program's text lays them (the card ties them).
  What is proved: FragGap: for any packet of which one part is missing, nothing is whole; the law returns true and leaves its arguments as they were (the tied card).
  Conditions: the listed package-level variables start as the program's text lays them (the card ties them).
-/
import Derived.Test.YtfaimdopaocpkaaDoorMFg
import Derived.Deep.DeepCutAuto
import Derived.Deep.CutBlock
import Derived.Test.YtfaimdopaocpkaaDoorCards
import Derived.Test.YtfaimdopaocpkaaDoorTie
import Derived.SevenTiedAt
import Derived.Test.YtfaimdopaocpkaaDoorMFs
namespace Go.Proofs.YtfaimdopaocpkaaDoor
open Go.RowKit

set_option maxRecDepth 100000 in
set_option maxHeartbeats 8000000 in
theorem fragGap_of {R : World → Nat → (Nat → Prop) → Int → List Hp → Prop} (X : FgOk R) (XS : SpOk) (X0 : ∀ W, W.cell? ⟨0, 0, none⟩ = some (.iface 105 (.agg #[.pointer (some ⟨4, 35, none⟩)])) → Calls Tryd.prog 12 #[] W fun e w' => e = .returned (.bool true) ∧ Below W.heap.size W w')
    (p : Ip) (A : Option Addr) (c : Nat) (x1 x2 x3 : Int) (w : World) (hg : w.cell? ⟨0, 0, none⟩ = some (.iface 105 (.agg #[.pointer (some ⟨4, 35, none⟩)]))) (hfit : p.Fit) (hc : c ≤ 9223372036854775807) (hr : Rd w (.slice A p.b.length c) p.b) (hx3 : UW x3) :
    Calls Tryd.prog 9 #[.agg #[.int .u8 p.tos, .int .u16 p.id, .bool p.df, .bool p.mf, .int .i64 p.off, .int .u8 p.ttl, .int .u8 p.proto, .int .u32 p.src, .int .u32 p.dst, .slice A p.b.length c], .int .i64 x1, .int .i64 x2, .int .u64 x3] w fun e w' => e = .returned (.bool true) ∧ Below w.heap.size w w' := by
  obtain ⟨m0, hm0⟩ : ∃ m, bits .and .i64 x1 65535 = m := ⟨_, rfl⟩
  have b0 := and_bound x1 65535 (by omega) (by omega)
  rw [hm0] at b0
  obtain ⟨m1, hm1⟩ : ∃ m, m0.tmod 500 = m := ⟨_, rfl⟩
  have b1 : 0 ≤ m1 ∧ m1 ≤ 499 := by
    rw [Int.tmod_eq_emod_of_nonneg b0.1] at hm1
    omega
  obtain ⟨mtu, hmtu⟩ : ∃ m, 68 + m1 = m := ⟨_, rfl⟩
  have qm : IntKind.i64.wrap (68 + m1) = mtu := by rw [IntKind.wrap_i64]; omega
  have hmt : 68 ≤ mtu ∧ mtu ≤ 567 := by omega
  obtain ⟨t0, ht0⟩ : ∃ m, x3.tmod 1000 = m := ⟨_, rfl⟩
  have b3 : 0 ≤ t0 ∧ t0 ≤ 999 := by
    rw [Int.tmod_eq_emod_of_nonneg hx3.1] at ht0
    omega
  obtain ⟨tm, htm⟩ : ∃ m, 1 + t0 = m := ⟨_, rfl⟩
  have qt : IntKind.u64.wrap (1 + t0) = tm := by rw [IntKind.wrap_u64]; omega
  have htb : 1 ≤ tm ∧ tm ≤ 1000 := by omega
  obtain ⟨m2, hm2⟩ : ∃ m, bits .and .i64 x2 65535 = m := ⟨_, rfl⟩
  have b2 := and_bound x2 65535 (by omega) (by omega)
  rw [hm2] at b2
  have Hfit := Lib.hid hfit
  have XSS := Lib.hid XS
  have XX := Lib.hid X
  have hB0 : Below w.heap.size w (w.alloc (.cells #[.int .u8 p.tos, .int .u16 p.id, .bool p.df, .bool p.mf, .int .i64 p.off, .int .u8 p.ttl, .int .u8 p.proto, .int .u32 p.src, .int .u32 p.dst, .slice A p.b.length c] 27)) := (Below.refl _ w).alloc (Nat.le_refl _) _
  have X0 := Lib.hid (X0 _ ((hB0.cell (World.block_lt_of_cell? w _ hg)).trans hg))
  have M0 := Lib.hid (heap_alloc_new w (.cells #[.int .u8 p.tos, .int .u16 p.id, .bool p.df, .bool p.mf, .int .i64 p.off, .int .u8 p.ttl, .int .u8 p.proto, .int .u32 p.src, .int .u32 p.dst, .slice A p.b.length c] 27))
  have B0 := Lib.hid hB0
  have R0 := Lib.hid (hr.below hB0)
  have hfl : p.few.b.length ≤ 2000 := p.plain_len
  clear XS X hfit hg hB0 hr hmtu htm hx3
  go_enter Tryd.func9, Tryd.ntmps9
  go_upto_region 1 with fail
  generalize w.alloc (.cells #[.int .u8 p.tos, .int .u16 p.id, .bool p.df, .bool p.mf, .int .i64 p.off, .int .u8 p.ttl, .int .u8 p.proto, .int .u32 p.src, .int .u32 p.dst, .slice A p.b.length c] 27) = w0 at X0 M0 B0 R0 ⊢
  obtain ⟨G, hG⟩ : ∃ G, w.heap.size = G := ⟨_, rfl⟩
  have HGe := Lib.hid hG
  rw [hG] at M0 B0 ⊢
  clear hG
  go_upto_region 2 with (go_at_call 12; (with_reducible refine X0.out.mono ?_); rintro e w1 ⟨rfl, hB⟩; (have B1 := Lib.hid hB); clear hB)
  have M1 := Lib.hid ((B1.out.block G (Array.getElem?_eq_some_iff.1 M0.out).1).trans M0.out)
  have R1 := Lib.hid (R0.out.below B1.out)
  have Bw1 := Lib.hid (below_to B0.out B1.out (by have := B0.out.size; have := (Array.getElem?_eq_some_iff.1 M0.out).1; omega))
  clear X0 M0 B0 R0 B1
  have XF := Lib.hid (few2_any p A c w1 R1.out hc)
  unfold FewTold Ip.val Ip.row at XF
  obtain ⟨c0, c1, c2, c3, c4, c5', c6, c7, c8, c9⟩ := IpAt.cells (p := p) (bv := .slice A p.b.length c) M1.out
  go_upto_region 3 with (first
    | (go_at_call 13; (with_reducible refine XF.out.mono ?_); rintro e w2 ⟨g5, c5, rfl, hr5, hg5, hB5, hcc5⟩; (have M2 := Lib.hid ((hB5.block G (Array.getElem?_eq_some_iff.1 M1.out).1).trans M1.out)); (have B2 := Lib.hid hB5); (have R2 := Lib.hid hr5); (have HC5 := Lib.hid hcc5); (have NG : Hid (g5 ≠ G) := Lib.hid (by have := (Array.getElem?_eq_some_iff.1 M1.out).1; omega)); clear hr5 hg5 hB5 hcc5)
    | (refine wpList_store_row rfl 27 (.tmp 4) (.tmp 19) rfl G #[.int .u8 p.tos, .int .u16 p.id, .bool p.df, .bool p.mf, .int .i64 p.off, .int .u8 p.ttl, .int .u8 p.proto, .int .u32 p.src, .int .u32 p.dst, .slice (some ⟨g5, 0, none⟩) p.few.b.length c5] rfl rfl 27 _ M2.out ipSize rfl (by simp [Value.oneCell']) ?_))
  have M3 := Lib.hid (setRow_heap _ _ _ #[.int .u8 p.tos, .int .u16 p.id, .bool p.df, .bool p.mf, .int .i64 p.off, .int .u8 p.ttl, .int .u8 p.proto, .int .u32 p.src, .int .u32 p.dst, .slice (some ⟨g5, 0, none⟩) p.few.b.length c5] _ _ M2.out)
  have R3 := Lib.hid (rd_row R2.out NG.out #[.int .u8 p.tos, .int .u16 p.id, .bool p.df, .bool p.mf, .int .i64 p.off, .int .u8 p.ttl, .int .u8 p.proto, .int .u32 p.src, .int .u32 p.dst, .slice (some ⟨g5, 0, none⟩) p.few.b.length c5])
  have Bw3 := Lib.hid (below_setRow (below_to Bw1.out B2.out (by have := Bw1.out.size; have := (Array.getElem?_eq_some_iff.1 M1.out).1; omega)) (Nat.le_refl G) #[.int .u8 p.tos, .int .u16 p.id, .bool p.df, .bool p.mf, .int .i64 p.off, .int .u8 p.ttl, .int .u8 p.proto, .int .u32 p.src, .int .u32 p.dst, .slice (some ⟨g5, 0, none⟩) p.few.b.length c5])
  generalize w2.setRow G #[.int .u8 p.tos, .int .u16 p.id, .bool p.df, .bool p.mf, .int .i64 p.off, .int .u8 p.ttl, .int .u8 p.proto, .int .u32 p.src, .int .u32 p.dst, .slice (some ⟨g5, 0, none⟩) p.few.b.length c5] = w3 at M3 R3 Bw3 ⊢
  clear c0 c1 c2 c3 c4 c5' c6 c7 c8 c9 XF R1 R2 B2 M1 M2 Bw1
  have MM4 : Hid ((((w3.setCell ⟨G, 4, none⟩ (.int .i64 0)).setCell ⟨G, 3, none⟩ (.bool false)).setCell ⟨G, 2, none⟩ (.bool false)).heap[G]? = some (.cells #[.int .u8 p.tos, .int .u16 p.id, .bool false, .bool false, .int .i64 0, .int .u8 p.ttl, .int .u8 p.proto, .int .u32 p.src, .int .u32 p.dst, .slice (some ⟨g5, 0, none⟩) p.few.b.length c5] 27)) := Lib.hid (by
    have h := M3.out
    unfold World.setCell
    simp only [Array.getElem?_modify, if_true, h, Option.map_some]
    rfl)
  have Bw4 := Lib.hid (((Bw3.out.setCell (p := ⟨G, 4, none⟩) (Nat.le_refl _) (.int .i64 0)).setCell (p := ⟨G, 3, none⟩) (Nat.le_refl _) (.bool false)).setCell (p := ⟨G, 2, none⟩) (Nat.le_refl _) (.bool false))
  have R4 := Lib.hid (rd_set (rd_set (rd_set R3.out NG.out 4 (.int .i64 0)) NG.out 3 (.bool false)) NG.out 2 (.bool false))
  have hf4 : w3.frozen? ⟨G, 4, none⟩ = false := by simp [World.frozen?, M3.out]
  have hf3 : w3.frozen? ⟨G, 3, none⟩ = false := by simp [World.frozen?, M3.out]
  have hf2 : w3.frozen? ⟨G, 2, none⟩ = false := by simp [World.frozen?, M3.out]
  have hc4 : w3.cell? ⟨G, 4, none⟩ = some (.int .i64 p.off) := by simp [World.cell?, M3.out]
  have hc3 : w3.cell? ⟨G, 3, none⟩ = some (.bool p.mf) := by simp [World.cell?, M3.out]
  have hc2 : w3.cell? ⟨G, 2, none⟩ = some (.bool p.df) := by simp [World.cell?, M3.out]
  go_upto_region 6 with fail
  generalize ((w3.setCell ⟨G, 4, none⟩ (.int .i64 0)).setCell ⟨G, 3, none⟩ (.bool false)).setCell ⟨G, 2, none⟩ (.bool false) = w4 at MM4 Bw4 R4 ⊢
  clear hf2 hf3 hf4 hc2 hc3 hc4 M3 Bw3 R3

  have XSp : Hid (Calls Tryd.prog 15 #[.agg #[.int .u8 p.tos, .int .u16 p.id, .bool false, .bool false, .int .i64 0, .int .u8 p.ttl, .int .u8 p.proto, .int .u32 p.src, .int .u32 p.dst, .slice (some ⟨g5, 0, none⟩) p.few.b.length c5], .int .i64 mtu] w4 (SplitVal p.plain mtu w4)) := Lib.hid (XSS.out p.plain (some ⟨g5, 0, none⟩) c5 mtu w4 (Ip.plain_in Hfit.out) hfl HC5.out (by omega) (by omega) R4.out)
  obtain ⟨c0, c1, c2, c3, c4, c5', c6, c7, c8, c9⟩ : w4.cell? ⟨G, 0, none⟩ = some (.int .u8 p.tos) ∧ w4.cell? ⟨G, 1, none⟩ = some (.int .u16 p.id) ∧ w4.cell? ⟨G, 2, none⟩ = some (.bool false) ∧ w4.cell? ⟨G, 3, none⟩ = some (.bool false) ∧ w4.cell? ⟨G, 4, none⟩ = some (.int .i64 0) ∧ w4.cell? ⟨G, 5, none⟩ = some (.int .u8 p.ttl) ∧ w4.cell? ⟨G, 6, none⟩ = some (.int .u8 p.proto) ∧ w4.cell? ⟨G, 7, none⟩ = some (.int .u32 p.src) ∧ w4.cell? ⟨G, 8, none⟩ = some (.int .u32 p.dst) ∧ w4.cell? ⟨G, 9, none⟩ = some (.slice (some ⟨g5, 0, none⟩) p.few.b.length c5) := IpAt.cells (p := p.plain) (bv := .slice (some ⟨g5, 0, none⟩) p.few.b.length c5) MM4.out
  go_upto_region 8 with (go_at_call 15; (with_reducible refine XSp.out.mono ?_); rintro e w5 ⟨l, A5, d5, ev, rfl, hl1, hl2, hE, hlm, hRP, hB⟩; (have E5 := Lib.hid hE); (have L5 := Lib.hid hlm); (have P5 := Lib.hid hRP); (have B5 := Lib.hid hB); clear hE hlm hRP hB)
  clear c0 c1 c2 c3 c4 c5' c6 c7 c8 c9 XSp
  have h0 := splitC_plain (p := p) hmt.1
  obtain rfl : ev = .nilIface := by
    rcases E5.out with ⟨_, h⟩ | ⟨h, _⟩
    · exact h
    · exact absurd h0 h
  have hlm := L5.out
  rw [if_pos h0] at hlm
  have HLM := Lib.hid hlm
  have Bw5 := Lib.hid (below_to (HGe.out ▸ Bw4.out : Below w.heap.size w w4) B5.out (HGe.out ▸ Bw4.out : Below w.heap.size w w4).size)
  have XN := Lib.hid (Fx.new XX.out (Below.refl w5.heap.size w5) (tm := tm) (by unfold UW; omega))
  clear h0 hlm E5 L5 MM4 Bw4 R4 B5
  go_upto_region 9 with (go_at_call 18; (with_reducible refine XN.out.mono ?_); rintro e w6 ⟨r, rfl, hF⟩; (have F6 := Lib.hid hF); clear hF)
  by_cases h2 : l.length < 2
  · have q2 : decide ((l.length : Int) < 2) = true := decide_eq_true (by omega)
    go_wp2_with fail
    go_ret
    exact ⟨rfl, below_to Bw5.out F6.out.base Bw5.out.size⟩
  · have q2 : decide ((l.length : Int) < 2) = false := decide_eq_false (by omega)
    have hLl : (splitL p.plain mtu).length = l.length := by rw [← HLM.out, List.length_map]
    have hn2 := splitL_le p.plain hmt.1
    have hpl := p.plain_len
    obtain ⟨hbne, hT, hbad⟩ := plain_tiles (p := p) hmt.1 (by omega)
    have HTl := Lib.hid hT
    have Hbn := Lib.hid hbne
    have Hbd := Lib.hid hbad
    obtain ⟨gap, hgap⟩ : ∃ g, m2.toNat % l.length = g := ⟨_, rfl⟩
    have hgl : gap < l.length := by rw [← hgap]; exact Nat.mod_lt _ (by omega)
    have qg : m2.tmod (l.length : Int) = (gap : Int) := by rw [← hgap]; exact mod_i64 (by omega) (by omega)
    obtain ⟨gx, hgx⟩ : ∃ g, (splitL p.plain mtu)[gap]? = some g := ⟨_, List.getElem?_eq_getElem (by omega)⟩
    have Hgx := Lib.hid hgx
    have qn : IntKind.i64.wrap (2 * (l.length : Int)) = 2 * (l.length : Int) := by rw [IntKind.wrap_i64]; omega
    have h6 : l.length ≤ 2001 := by omega
    have HLl := Lib.hid hLl
    clear hT hbne hbad hgap hgx hLl hn2 hpl
    go_wp2_with fail
    go_loopw [13] (fun s13 wr => ∃ (i : Nat) (S : List Hp), s13 = .int .i64 (i : Int) ∧ i ≤ 2 * l.length ∧ Fx R w5 (fun _ => False) wr r tm S ∧ HeapIs S p.plain.key4 7 (seenG (splitL p.plain mtu) gap i) ∧ S.length = (if seenG (splitL p.plain mtu) gap i = [] then 0 else 1)) (fun s13 _ => 2 * l.length - (intOf s13).toNat)
    case atStart => exact ⟨0, [], rfl, Nat.zero_le _, F6.out, .inl ⟨rfl, rfl⟩, rfl⟩
    case round =>
      obtain ⟨i, S, rfl, hi, hF, hH, hSl⟩ := hrel
      have HF := Lib.hid hF
      have HH := Lib.hid hH
      have HSl := Lib.hid hSl
      clear hF hH hSl F6
      by_cases hlt : i < 2 * l.length
      · have q1 : decide ((i : Int) < 2 * (l.length : Int)) = true := decide_eq_true (by omega)
        obtain ⟨j, hj⟩ : ∃ j, i % l.length = j := ⟨_, rfl⟩
        have hjl : j < l.length := by rw [← hj]; exact Nat.mod_lt _ (by omega)
        have qj : ((i : Int)).tmod (l.length : Int) = (j : Int) := by rw [← hj]; exact mod_i64 rfl (by omega)
        have Hj := Lib.hid hj
        by_cases hjg : j = gap
        · have qe : ((j : Int) == (gap : Int)) = true := by rw [beq_iff_eq]; omega
          have hsn : Hid (seenG (splitL p.plain mtu) gap (i + 1) = seenG (splitL p.plain mtu) gap i) := Lib.hid (by
            show (if i % (splitL p.plain mtu).length = gap then _ else _) = _
            rw [if_pos (by rw [HLl.out, Hj.out, hjg])])
          clear hj hjg
          go_wp2_with fail
          exact ⟨⟨i + 1, S, by simp, by omega, HF.out, by rw [hsn.out]; exact HH.out, by rw [hsn.out]; exact HSl.out⟩, by simp [intOf]; omega⟩
        · have qe : ((j : Int) == (gap : Int)) = false := by rw [beq_eq_false_iff_ne]; omega
          obtain ⟨x, hx⟩ : ∃ x, l[j]? = some x := ⟨l[j], List.getElem?_eq_getElem hjl⟩
          obtain ⟨g, o, rfl, hX, hI⟩ := (P5.out.below HF.out.base) j x hx
          have hxp : (splitL p.plain mtu)[j]? = some x.p := by rw [← HLM.out, List.getElem?_map, hx]; rfl
          have hsn : Hid (seenG (splitL p.plain mtu) gap (i + 1) = seenG (splitL p.plain mtu) gap i ++ [x.p]) := Lib.hid (by
            show (if i % (splitL p.plain mtu).length = gap then _ else _) = _
            rw [if_neg (by rw [HLl.out, Hj.out]; exact hjg), HLl.out, Hj.out, hxp]
            rfl)
          have Hxp := Lib.hid hxp
          have hne : Hid (gx ≠ x.p) := Lib.hid (fun e => by
            have hgx := Hgx.out
            rw [e] at hgx
            exact hjg (nodup_inj HTl.out.nodup hxp hgx))
          have hI5 : Pv.In w5 x := by
            obtain ⟨_, _, _, _, h⟩ := P5.out j x hx
            exact h
          have XT := Lib.hid (HF.out.take XX.out (now := 7) hI.inn hI.few (by unfold UW; omega) hI.cap hI.rd (fun hb a ha => .inl (rd_old hI5.rd hb a ha)))
          obtain ⟨c0, c1, c2, c3, c4, c5', c6, c7, c8, c9⟩ := hX
          clear hj hjg hx hxp hI
          go_upto_region 19 with (first
            | (go_at_call 19; (with_reducible refine XT.out.mono ?_); rintro e w7 ⟨S7, o7, n7, b7, hTR, hV, hF7, _⟩; (have TT := take_tile rfl rfl Hbn.out HTl.out (by rw [HLl.out]; omega) Hbd.out (HF.out.un XX.out).1 (by rw [HSl.out]; split <;> omega) HH.out (fun y hy => by obtain ⟨k, hk, _⟩ := seenG_mem hy; exact List.mem_of_getElem? hk) (List.mem_of_getElem? Hxp.out) (fun _ => rfl) hTR); (obtain ⟨rfl, rfl, rfl, hH7, hS7⟩ := TT.2 ⟨gx, List.mem_of_getElem? Hgx.out, fun h => h.elim (seenG_gap HTl.out.nodup Hgx.out) hne.out⟩); (obtain ⟨B6, d6, ev7, rfl, _, hE7⟩ := hV); (obtain rfl : ev7 = .nilIface := by (rcases hE7 with ⟨_, h⟩ | ⟨h, _⟩; exact h; exact absurd rfl h)); (have F7 := Lib.hid hF7); (have H7 := Lib.hid hH7); (have S7l := Lib.hid hS7); clear hTR TT hF7 hH7 hS7 hE7)
            | (refine wpList_store_row rfl 27 (.tmp 14) (.tmp 75) rfl w7.heap.size #[.int .u8 noIp.tos, .int .u16 noIp.id, .bool noIp.df, .bool noIp.mf, .int .i64 noIp.off, .int .u8 noIp.ttl, .int .u8 noIp.proto, .int .u32 noIp.src, .int .u32 noIp.dst, .slice B6 noIp.b.length d6] rfl rfl 27 _ (heap_alloc_new w7 _) ipSize rfl (by simp [Value.oneCell']) ?_; rw [setRow_alloc]))
          clear c0 c1 c2 c3 c4 c5' c6 c7 c8 c9 XT
          have B8 := Lib.hid ((Below.refl w7.heap.size w7).alloc (Nat.le_refl _) (.cells #[.int .u8 noIp.tos, .int .u16 noIp.id, .bool noIp.df, .bool noIp.mf, .int .i64 noIp.off, .int .u8 noIp.ttl, .int .u8 noIp.proto, .int .u32 noIp.src, .int .u32 noIp.dst, .slice B6 noIp.b.length d6] 27))
          generalize w7.alloc (.cells #[.int .u8 noIp.tos, .int .u16 noIp.id, .bool noIp.df, .bool noIp.mf, .int .i64 noIp.off, .int .u8 noIp.ttl, .int .u8 noIp.proto, .int .u32 noIp.src, .int .u32 noIp.dst, .slice B6 noIp.b.length d6] 27) = w8 at B8 ⊢
          go_wp2_with fail
          exact ⟨⟨i + 1, S7, by simp, by omega, F7.out.to XX.out B8.out, by rw [hsn.out]; exact H7.out, by rw [hsn.out, S7l.out, HSl.out]; exact len_step _ _⟩, by simp [intOf]; omega⟩
      · have q1 : decide ((i : Int) < 2 * (l.length : Int)) = false := decide_eq_false (by omega)
        have hsne : seenG (splitL p.plain mtu) gap i ≠ [] := seenG_ne (by rw [HLl.out]; omega) (by omega)
        have hs1 := HSl.out
        rw [if_neg hsne] at hs1
        obtain ⟨h, rfl, ht7⟩ := heap_one HH.out hsne hs1
        have q6 : IntKind.u64.wrap (6 + tm) = 6 + tm := by rw [IntKind.wrap_u64]; omega
        have q7 : IntKind.u64.wrap (7 + tm) = 7 + tm := by rw [IntKind.wrap_u64]; omega
        have XL := Lib.hid (HF.out.len XX.out)
        have XT := Lib.hid (fun W (hb : Below wr.heap.size wr W) => (HF.out.to XX.out hb).tick XX.out (now := 6 + tm) (by unfold UW; omega))
        clear hsne hs1 HH HSl
        go_wp2_with (first
          | (go_at_call 20; (with_reducible refine XL.out.mono ?_); rintro e w7 ⟨rfl, hw7⟩; subst w7)
          | (go_at_call 22; (with_reducible refine (XT.out _ (Below.refl _ _)).mono ?_); rintro e w8 ⟨S8, n8, hT8, rfl, hF8, _⟩; (obtain ⟨rfl, rfl⟩ := tick_not hT8 (by omega) (by omega)); (have XT9 := Lib.hid (hF8.tick XX.out (now := 7 + tm) (by unfold UW; omega))); clear hT8 hF8)
          | (go_at_call 22; (with_reducible refine XT9.out.mono ?_); rintro e w9 ⟨S9, n9, hT9, rfl, hF9, _⟩; (obtain ⟨rfl, rfl⟩ := tick_late hT9 (by omega) (by omega)); (have F9 := Lib.hid hF9); (have XL9 := Lib.hid (hF9.len XX.out)); clear hT9 hF9)
          | (go_at_call 20; (with_reducible refine XL9.out.mono ?_); rintro e w10 ⟨rfl, hw10⟩; subst w10))
        go_ret
        exact ⟨rfl, below_to Bw5.out F9.out.base Bw5.out.size⟩
end Go.Proofs.YtfaimdopaocpkaaDoor
namespace Go.Proofs.YtfaimdopaocpkaaDoor
open Go Go.ChangeShapes Go.WideShapes Go.RowKit

/-- The contract. -/
def FragGapDoes : Prop := ∀ (p0 : Ip) (A0 : Option Addr) (c0 : Nat) (n1 : Int) (n2 : Int) (n3 : Int) (w : World), Hdl w → p0.Fit → Rd w (.slice A0 p0.b.length c0) p0.b → c0 ≤ 9223372036854775807 → -9223372036854775808 ≤ n1 → n1 ≤ 9223372036854775807 → -9223372036854775808 ≤ n2 → n2 ≤ 9223372036854775807 → UW n3 → Calls Tryd.prog 9 #[p0.val (.slice A0 p0.b.length c0), .int .i64 n1, .int .i64 n2, .int .u64 n3] w fun e w' => e = .returned (.bool true) ∧ Below w.heap.size w w'

set_option maxRecDepth 100000 in
theorem fragGap_lifted (hc : FragGapDoes) (os : Os) (started : os.Started) (H : Type) (enc : TypeId × Value → H) :
    ReturnsInHanded {} Tryd.checked os 9 .any (fun w args => (Rows.fragGapSpec.pre enc Tryd.prog Tryd.f9 [] false w args ∧ laidMetH Tryd.prog laidList w) ∧ sizedMet enc Tryd.prog Tryd.f9 (OpenSpec.ofChange Rows.fragGapSpec) false w args)
      (Rows.fragGapSpec.post enc Tryd.prog Tryd.f9 false true false false) := by
  refine returnsInHanded_of_change_and (C := Tryd.checked) (X := fun w _ => laidMetH Tryd.prog laidList w) (fun _ _ _ hh h => h.of_heap hh) ownGodebug started (by kernel_rfl) Tryd.func9
    (ChangeSpec.witness_at (enc := enc) (C := Tryd.checked) (os := os) (X := fun w _ => laidMetH Tryd.prog laidList w) false (laidWorld os) #[.agg #[.int .u8 0, .int .u16 0, .bool false, .bool false, .int .i64 0, .int .u8 0, .int .u8 0, .int .u32 0, .int .u32 0, .slice none 0 0], .int .i64 0, .int .i64 0, .int .u64 0] 8 rfl (by kernel_rfl) (by kernel_rfl) (by kernel_rfl) (by kernel_rfl) (by kernel_rfl) (laidWorld_met os _)) ?_
  intro W base args ds gs before hval0 hW _ _ hL _
  have hval : ∀ (j : Nat) t v, Tryd.f9.params[j]? = some t → args[j]? = some v → Value.okWide Tryd.prog W .any base t v := hval0
  have hW' := hW
  obtain ⟨p, q, hA0, hV0, rfl, hfz, hnd⟩ := hW
  have hA : DataW.TrodAll enc Tryd.prog W 0 (fun _ => true) true Tryd.f9.params.toList args.toList ds p := hA0
  have hV : DataW.TrodVars enc Tryd.prog W (fun _ => true) [] gs q := hV0
  rw [Tryd.params9] at hA hval
  obtain ⟨v0, vs0, d0, ds0, p0, q0, hargs, rfl, rfl, h0, r0⟩ := trodAll_cons hA
  obtain ⟨v1, vs1, d1, ds1, p1, q1, rfl, rfl, rfl, h1, r1⟩ := trodAll_cons r0
  obtain ⟨v2, vs2, d2, ds2, p2, q2, rfl, rfl, rfl, h2, r2⟩ := trodAll_cons r1
  obtain ⟨v3, vs3, d3, ds3, p3, q3, rfl, rfl, rfl, h3, r3⟩ := trodAll_cons r2
  obtain ⟨rfl, rfl, rfl⟩ := trodAll_nil r3
  obtain rfl : args = #[v0, v1, v2, v3] := by cases args; simpa using hargs
  obtain ⟨rfl, rfl⟩ := trodVars_none hV
  obtain ⟨p0, A0, c0, rfl, b0, e0, a0⟩ := open_ip (hval 0 27 v0 rfl rfl) h0
  obtain ⟨n1, rfl, rfl, rfl, w1⟩ := open_int Tryd.underlying3 (hval 1 3 v1 rfl rfl) h1
  obtain ⟨n2, rfl, rfl, rfl, w2⟩ := open_int Tryd.underlying3 (hval 2 3 v2 rfl rfl) h2
  obtain ⟨n3, rfl, rfl, rfl, w3⟩ := open_int Tryd.underlying47 (hval 3 47 v3 rfl rfl) h3
  refine (hc p0 A0 c0 n1 n2 n3 W (hdl_of_laid hL) a0 e0 b0 (i64_wf w1).1 (i64_wf w1).2 (i64_wf w2).1 (i64_wf w2).2 (u64_wf w3)).mono fun e W' ⟨he, hb⟩ => ?_
  subst he
  exact ⟨_, rfl, law_post rfl rfl rfl (by rw [Tryd.params9]; intro t ht; simp at ht; (first | (rcases ht with rfl | rfl | rfl | rfl) | (rcases ht with rfl | rfl | rfl)) <;> (try subst ht) <;> exact ⟨by kernel_rfl, by rw [typesSize]; decide⟩) hW' hb⟩
theorem fragGap_row (hc : FragGapDoes) : Rows.FragGapSaid :=
  OpenClaim.holds_of_wide 9 Tryd.f9 rfl rfl rfl rfl rfl rfl rfl ⟨rfl, rfl, rfl, rfl, rfl⟩ rfl rfl rfl rfl rfl (by kernel_rfl) Tryd.func9 (by kernel_rfl)
    (of_decide_eq_true (by kernel_rfl)) (by unfold Func.isWrapper; rw [if_neg (of_decide_eq_false (by kernel_rfl))]; exact ⟨rfl, rfl⟩)
    (fun os started H enc _ => fragGap_lifted hc os started H enc)
theorem fragGap_card (hrow : Rows.FragGapSaid) : Rows.FragGapCardSaid :=
  Claim7.holds_tied_plain_at .later [] [.handle] true _ true
    hrow (fun _ h => by cases h) (by kernel_rfl) (fun _ h => by cases h) fragGap_row_tie rfl ⟨rfl, rfl⟩ (by kernel_rfl) rfl
    (fun f fn hf hfn => by
      obtain rfl : f = 9 := Option.some.inj ((show Tryd.prog.funcNamed "underpass/underpasslaw10.FragGap" = some 9 by kernel_rfl).symm.trans hf) |>.symm
      obtain rfl : fn = Tryd.f9 := (Option.some.inj (Tryd.func9.symm.trans hfn)).symm
      exact ⟨by kernel_rfl, fun j t ht => by
        rw [Tryd.params9] at ht
        rcases j with _ | _ | _ | _ | j
        · have h3 : t = 27 := by simpa using ht.symm
          subst h3
          exact (show Tryd.prog.wantsStandIn 27 = false by kernel_rfl)
        · have h3 : t = 3 := by simpa using ht.symm
          subst h3
          exact (show Tryd.prog.wantsStandIn 3 = false by kernel_rfl)
        · have h3 : t = 3 := by simpa using ht.symm
          subst h3
          exact (show Tryd.prog.wantsStandIn 3 = false by kernel_rfl)
        · have h3 : t = 47 := by simpa using ht.symm
          subst h3
          exact (show Tryd.prog.wantsStandIn 47 = false by kernel_rfl)
        · simp at ht⟩)
    (by kernel_rfl)
end Go.Proofs.YtfaimdopaocpkaaDoor
namespace Go.Proofs.YtfaimdopaocpkaaDoor
theorem fragGap_any : FragGapDoes := fun p A c x y t w hg hf hr hc _ _ _ _ ht => fragGap_of frag_ok split_ok fshown_any p A c x y t w hg hf hc hr ht
theorem fragGap_holds : Rows.FragGapCardSaid := fragGap_card (fragGap_row fragGap_any)
end Go.Proofs.YtfaimdopaocpkaaDoor
