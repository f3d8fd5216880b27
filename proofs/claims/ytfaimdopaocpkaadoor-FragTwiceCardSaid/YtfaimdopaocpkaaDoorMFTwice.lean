/-
  What is proved: FragTwice by contract, out of that of frag.Split: the law returns true, and older memory is as it was.
  Conditions: those of the arguments; Split's contract, and that of 'shown', handed in.
  What is proved: the row and the tied card of FragTwice out of its function's contract.
  Conditions: the contract, handed in; the listed package-level variables start as the program's text lays them (the card ties them).
  What is proved: FragTwice: for any packet and two MTUs the parts of a part are parts of the packet; the law returns true and leaves its arguments as they were (the tied card).
  Conditions: the listed package-level variables start as the program's text lays them (the card ties them).
-/
import Derived.Test.YtfaimdopaocpkaaDoorMFg
import Derived.Test.YtfaimdopaocpkaaDoorVSame
import Derived.Deep.DeepCutAuto
import Derived.Deep.CutBlock
import Derived.Deep.RegionHeldLaw
import Derived.Test.YtfaimdopaocpkaaDoorVLift
import Derived.Test.YtfaimdopaocpkaaDoorCards
import Derived.Test.YtfaimdopaocpkaaDoorTie
import Derived.SevenTiedAt
import Derived.Test.YtfaimdopaocpkaaDoorMFs
namespace Go.Proofs.YtfaimdopaocpkaaDoor
open Go.RowKit

def Ip.noDf (p : Ip) : Ip := { p.few with df := false }
theorem Ip.noDf_in {p : Ip} (h : p.Fit) : p.noDf.In := by
  have k := Ip.few_in h
  exact ⟨k.tos, k.id, k.off, k.ttl, k.proto, k.src, k.dst, k.b⟩
theorem splitC_noDf {p : Ip} {mtu : Int} (hm : 68 ≤ mtu) : splitC p.noDf mtu = p.noDf.bad := by
  unfold splitC
  rw [if_neg (by omega)]
  split
  · rfl
  · rename_i h
    have e : p.noDf.bad = 0 := by simpa using h
    rw [e]
    split
    · rfl
    · rfl
theorem one_of_map {l : List Pv} {p : Ip} (h : l.map Pv.p = [p]) : ∃ B c, l = [⟨p, B, c⟩] := by
  match l, h with
  | [⟨q, B, c⟩], h => exact ⟨B, c, by simpa using h⟩

set_option maxRecDepth 100000 in
set_option maxHeartbeats 8000000 in
theorem fragTwice_of (XS : SpOk) (X0 : ∀ W, W.cell? ⟨0, 0, none⟩ = some (.iface 105 (.agg #[.pointer (some ⟨4, 35, none⟩)])) → Calls Tryd.prog 12 #[] W fun e w' => e = .returned (.bool true) ∧ Below W.heap.size W w')
    (p : Ip) (A : Option Addr) (c : Nat) (x1 x2 : Int) (w : World) (hg : w.cell? ⟨0, 0, none⟩ = some (.iface 105 (.agg #[.pointer (some ⟨4, 35, none⟩)]))) (hfit : p.Fit) (hc : c ≤ 9223372036854775807) (hr : Rd w (.slice A p.b.length c) p.b) :
    Calls Tryd.prog 11 #[.agg #[.int .u8 p.tos, .int .u16 p.id, .bool p.df, .bool p.mf, .int .i64 p.off, .int .u8 p.ttl, .int .u8 p.proto, .int .u32 p.src, .int .u32 p.dst, .slice A p.b.length c], .int .i64 x1, .int .i64 x2] w fun e w' => e = .returned (.bool true) ∧ Below w.heap.size w w' := by
  obtain ⟨m0, hm0⟩ : ∃ m, bits .and .i64 x1 65535 = m := ⟨_, rfl⟩
  have b0 := and_bound x1 65535 (by omega) (by omega)
  rw [hm0] at b0
  obtain ⟨m1, hm1⟩ : ∃ m, m0.tmod 1500 = m := ⟨_, rfl⟩
  have b1 : 0 ≤ m1 ∧ m1 ≤ 1499 := by
    rw [Int.tmod_eq_emod_of_nonneg b0.1] at hm1
    omega
  obtain ⟨mtu, hmtu⟩ : ∃ m, 68 + m1 = m := ⟨_, rfl⟩
  have qm : IntKind.i64.wrap (68 + m1) = mtu := by rw [IntKind.wrap_i64]; omega
  have hmt : 68 ≤ mtu ∧ mtu ≤ 1567 := by omega
  obtain ⟨m2, hm2⟩ : ∃ m, bits .and .i64 x2 4095 = m := ⟨_, rfl⟩
  have b2 := and_bound x2 4095 (by omega) (by omega)
  rw [hm2] at b2
  obtain ⟨mt2, hmt2⟩ : ∃ m, mtu + m2 = m := ⟨_, rfl⟩
  have qm2 : IntKind.i64.wrap (mtu + m2) = mt2 := by rw [IntKind.wrap_i64]; omega
  have hmt2' : mtu ≤ mt2 ∧ mt2 ≤ 6000 := by omega
  have XX := Lib.hid XS
  have Hfit := Lib.hid hfit
  have hB0 : Below w.heap.size w (w.alloc (.cells #[.int .u8 p.tos, .int .u16 p.id, .bool p.df, .bool p.mf, .int .i64 p.off, .int .u8 p.ttl, .int .u8 p.proto, .int .u32 p.src, .int .u32 p.dst, .slice A p.b.length c] 27)) := (Below.refl _ w).alloc (Nat.le_refl _) _
  have X0 := Lib.hid (X0 _ ((hB0.cell (World.block_lt_of_cell? w _ hg)).trans hg))
  have M0 := Lib.hid (heap_alloc_new w (.cells #[.int .u8 p.tos, .int .u16 p.id, .bool p.df, .bool p.mf, .int .i64 p.off, .int .u8 p.ttl, .int .u8 p.proto, .int .u32 p.src, .int .u32 p.dst, .slice A p.b.length c] 27))
  have B0 := Lib.hid hB0
  have R0 := Lib.hid (hr.below hB0)
  have hfl : p.few.b.length ≤ 2000 := by show (p.b.take 2000).length ≤ 2000; rw [List.length_take]; omega
  clear XS hfit hg hB0 hr hmtu hmt2
  go_enter Tryd.func11, Tryd.ntmps11
  go_upto_region 1 with fail
  generalize w.alloc (.cells #[.int .u8 p.tos, .int .u16 p.id, .bool p.df, .bool p.mf, .int .i64 p.off, .int .u8 p.ttl, .int .u8 p.proto, .int .u32 p.src, .int .u32 p.dst, .slice A p.b.length c] 27) = w0 at X0 M0 B0 R0 ⊢
  obtain ⟨G, hG⟩ : ∃ G, w.heap.size = G := ⟨_, rfl⟩
  have HGe := Lib.hid hG
  rw [hG] at M0 B0 ⊢
  clear hG
  go_upto_region 2 with (go_at_call 12; (with_reducible refine X0.out.mono ?_); rintro e w1 ⟨rfl, hB⟩; (have B1 := Lib.hid hB); clear hB)
  have M1 := Lib.hid ((B1.out.block G (Array.getElem?_eq_some_iff.1 M0.out).1).trans M0.out)
  have R1 := Lib.hid (R0.out.below B1.out)
  have Bw1 := Lib.hid (below_to B0.out B1.out (by have := B0.out.size; have := (Array.getElem?_eq_some_iff.1 M0.out).1; omega))
  clear X0 M0 B0 R0 B1
  have XF := Lib.hid (few2_any p A c w1 R1.out hc)
  unfold FewTold Ip.val Ip.row at XF
  obtain ⟨c0, c1, c2, c3, c4, c5', c6, c7, c8, c9⟩ := IpAt.cells (p := p) (bv := .slice A p.b.length c) M1.out
  go_upto_region 3 with (first
    | (go_at_call 13; (with_reducible refine XF.out.mono ?_); rintro e w2 ⟨g5, c5, rfl, hr5, hg5, hB5, hcc5⟩; (have M2 := Lib.hid ((hB5.block G (Array.getElem?_eq_some_iff.1 M1.out).1).trans M1.out)); (have B2 := Lib.hid hB5); (have R2 := Lib.hid hr5); (have HC5 := Lib.hid hcc5); (have NG : Hid (g5 ≠ G) := Lib.hid (by have := (Array.getElem?_eq_some_iff.1 M1.out).1; omega)); clear hr5 hg5 hB5 hcc5)
    | (refine wpList_store_row rfl 27 (.tmp 3) (.tmp 17) rfl G #[.int .u8 p.tos, .int .u16 p.id, .bool p.df, .bool p.mf, .int .i64 p.off, .int .u8 p.ttl, .int .u8 p.proto, .int .u32 p.src, .int .u32 p.dst, .slice (some ⟨g5, 0, none⟩) p.few.b.length c5] rfl rfl 27 _ M2.out ipSize rfl (by simp [Value.oneCell']) ?_))
  have M3 := Lib.hid (setRow_heap _ _ _ #[.int .u8 p.tos, .int .u16 p.id, .bool p.df, .bool p.mf, .int .i64 p.off, .int .u8 p.ttl, .int .u8 p.proto, .int .u32 p.src, .int .u32 p.dst, .slice (some ⟨g5, 0, none⟩) p.few.b.length c5] _ _ M2.out)
  have R3 := Lib.hid (rd_row R2.out NG.out #[.int .u8 p.tos, .int .u16 p.id, .bool p.df, .bool p.mf, .int .i64 p.off, .int .u8 p.ttl, .int .u8 p.proto, .int .u32 p.src, .int .u32 p.dst, .slice (some ⟨g5, 0, none⟩) p.few.b.length c5])
  have Bw3 := Lib.hid (below_setRow (below_to Bw1.out B2.out (by have := Bw1.out.size; have := (Array.getElem?_eq_some_iff.1 M1.out).1; omega)) (Nat.le_refl G) #[.int .u8 p.tos, .int .u16 p.id, .bool p.df, .bool p.mf, .int .i64 p.off, .int .u8 p.ttl, .int .u8 p.proto, .int .u32 p.src, .int .u32 p.dst, .slice (some ⟨g5, 0, none⟩) p.few.b.length c5])
  generalize w2.setRow G #[.int .u8 p.tos, .int .u16 p.id, .bool p.df, .bool p.mf, .int .i64 p.off, .int .u8 p.ttl, .int .u8 p.proto, .int .u32 p.src, .int .u32 p.dst, .slice (some ⟨g5, 0, none⟩) p.few.b.length c5] = w3 at M3 R3 Bw3 ⊢
  clear c0 c1 c2 c3 c4 c5' c6 c7 c8 c9 XF R1 R2 B2 M1 M2 Bw1
  have M4 : Hid ((w3.setCell ⟨G, 2, none⟩ (.bool false)).heap[G]? = some (.cells #[.int .u8 p.tos, .int .u16 p.id, .bool false, .bool p.mf, .int .i64 p.off, .int .u8 p.ttl, .int .u8 p.proto, .int .u32 p.src, .int .u32 p.dst, .slice (some ⟨g5, 0, none⟩) p.few.b.length c5] 27)) := Lib.hid (by
    have h := M3.out
    unfold World.setCell
    simp only [Array.getElem?_modify, if_true, h, Option.map_some]
    rfl)
  have Bw4 := Lib.hid (Bw3.out.setCell (p := ⟨G, 2, none⟩) (Nat.le_refl _) (.bool false))
  have R4 := Lib.hid (rd_set R3.out NG.out 2 (.bool false))
  have hf3 : w3.frozen? ⟨G, 2, none⟩ = false := by simp [World.frozen?, M3.out]
  have hc3 : w3.cell? ⟨G, 2, none⟩ = some (.bool p.df) := by simp [World.cell?, M3.out]
  go_upto_region 4 with fail
  generalize w3.setCell ⟨G, 2, none⟩ (.bool false) = w4 at M4 Bw4 R4 ⊢
  clear hf3 hc3 M3 Bw3 R3
  have XSp := Lib.hid (XX.out p.noDf (some ⟨g5, 0, none⟩) c5 mtu w4 (Ip.noDf_in Hfit.out) hfl HC5.out (by omega) (by omega) R4.out)
  have XSp' : Hid (Calls Tryd.prog 15 #[.agg #[.int .u8 p.tos, .int .u16 p.id, .bool false, .bool p.mf, .int .i64 p.off, .int .u8 p.ttl, .int .u8 p.proto, .int .u32 p.src, .int .u32 p.dst, .slice (some ⟨g5, 0, none⟩) p.few.b.length c5], .int .i64 mtu] w4 (SplitVal p.noDf mtu w4)) := XSp
  clear XSp
  obtain ⟨c0, c1, c2, c3, c4, c5', c6, c7, c8, c9⟩ : w4.cell? ⟨G, 0, none⟩ = some (.int .u8 p.tos) ∧ w4.cell? ⟨G, 1, none⟩ = some (.int .u16 p.id) ∧ w4.cell? ⟨G, 2, none⟩ = some (.bool false) ∧ w4.cell? ⟨G, 3, none⟩ = some (.bool p.mf) ∧ w4.cell? ⟨G, 4, none⟩ = some (.int .i64 p.off) ∧ w4.cell? ⟨G, 5, none⟩ = some (.int .u8 p.ttl) ∧ w4.cell? ⟨G, 6, none⟩ = some (.int .u8 p.proto) ∧ w4.cell? ⟨G, 7, none⟩ = some (.int .u32 p.src) ∧ w4.cell? ⟨G, 8, none⟩ = some (.int .u32 p.dst) ∧ w4.cell? ⟨G, 9, none⟩ = some (.slice (some ⟨g5, 0, none⟩) p.few.b.length c5) := IpAt.cells (p := p.noDf) (bv := .slice (some ⟨g5, 0, none⟩) p.few.b.length c5) M4.out
  have hsc := splitC_noDf (p := p) hmt.1
  go_upto_region 6 with (go_at_call 15; (with_reducible refine XSp'.out.mono ?_); rintro e w5 ⟨l, A5, d5, ev, rfl, hl1, hl2, hE, hlm, hRP, hB⟩; (have E5 := Lib.hid hE); (have L5 := Lib.hid hlm); (have P5 := Lib.hid hRP); (have B5 := Lib.hid hB); clear hE hlm hRP hB)
  clear c0 c1 c2 c3 c4 c5' c6 c7 c8 c9 XSp'
  have M5 := Lib.hid ((B5.out.block G (Array.getElem?_eq_some_iff.1 M4.out).1).trans M4.out)
  have Bw5 := Lib.hid (below_to Bw4.out B5.out (by have := Bw4.out.size; have := (Array.getElem?_eq_some_iff.1 M4.out).1; omega))
  have R5 := Lib.hid (R4.out.below B5.out)
  clear M4 Bw4 R4 B5
  rcases E5.out with ⟨h0, rfl⟩ | ⟨hne, y, rfl, hch⟩
  · have hbad : p.noDf.bad = 0 := by rw [hsc] at h0; exact h0
    have hlm := L5.out
    rw [if_pos h0] at hlm
    have HLM := Lib.hid hlm
    have Hbad := Lib.hid hbad
    have hll : l.length ≤ 9223372036854775807 := by omega
    clear hlm hbad h0 hsc E5 L5
    go_wp2_with fail
    go_loopw [10] (fun s10 wr => ∃ k : Nat, s10 = .int .i64 (k : Int) ∧ k ≤ l.length ∧ Below w5.heap.size w5 wr) (fun s10 _ => l.length - (intOf s10).toNat)
    case atStart => exact ⟨0, rfl, Nat.zero_le _, Below.refl _ _⟩
    case round =>
      obtain ⟨k, rfl, hk, hB⟩ := hrel
      have HB := Lib.hid hB
      clear hB
      by_cases hlt : k < l.length
      · have q1 : decide ((k : Int) < (l.length : Int)) = true := decide_eq_true (by omega)
        obtain ⟨x, hx⟩ : ∃ x, l[k]? = some x := ⟨l[k], List.getElem?_eq_getElem hlt⟩
        obtain ⟨g, o, rfl, hX, hI⟩ := (P5.out.below HB.out) k x hx
        have hmem : x.p ∈ splitL p.noDf mtu := by rw [← HLM.out]; exact List.mem_map.2 ⟨x, List.mem_of_getElem? hx, rfl⟩
        have HSA := Lib.hid (split_again hmt.1 Hbad.out hmem)
        have XSx := Lib.hid (XX.out x.p x.B x.c mtu wr hI.inn hI.few hI.cap (by omega) (by omega) hI.rd)
        have HI := Lib.hid hI
        have HX := Lib.hid hX
        obtain ⟨c0, c1, c2, c3, c4, c5', c6, c7, c8, c9⟩ := hX
        clear hx hmem hI
        go_upto_region 12 with (go_at_call 15; (with_reducible refine XSx.out.mono ?_); rintro e w7 ⟨l7, A7, d7, ev7, rfl, hl71, hl72, hE, hlm, hRP, hB⟩; (have E7 := Lib.hid hE); (have L7 := Lib.hid hlm); (have P7 := Lib.hid hRP); (have B7 := Lib.hid hB); clear hE hlm hRP hB)
        clear c0 c1 c2 c3 c4 c5' c6 c7 c8 c9 XSx
        obtain rfl : ev7 = .nilIface := by
          rcases E7.out with ⟨_, h⟩ | ⟨h, _⟩
          · exact h
          · exact absurd HSA.out.1 h
        have hm7 : l7.map Pv.p = [x.p] := by
          have h := L7.out
          rw [if_pos HSA.out.1, HSA.out.2] at h
          exact h
        have hl7 : l7.length = 1 := by
          have h := congrArg List.length hm7
          simpa using h
        simp only [hl7] at hl71 ⊢
        obtain ⟨B8, d8, rfl⟩ := one_of_map hm7
        obtain ⟨g8, o8, rfl, hX8, hI8⟩ := P7.out 0 ⟨x.p, B8, d8⟩ rfl
        have hX8 : Pv.At w7 g8 o8 ⟨x.p, B8, d8⟩ := by simpa using hX8
        have HX7 := Lib.hid (HX.out.below B7.out)
        have HX8 := Lib.hid hX8
        have KS : Hid (∀ W', Below w7.heap.size w7 W' → (fun W' => W'.cell? ⟨g8, o8, none⟩ = some (.int .u8 x.p.tos) ∧ W'.cell? ⟨g8, o8 + 1, none⟩ = some (.int .u16 x.p.id) ∧ W'.cell? ⟨g8, o8 + 2, none⟩ = some (.bool x.p.df) ∧ W'.cell? ⟨g8, o8 + 3, none⟩ = some (.bool x.p.mf) ∧ W'.cell? ⟨g8, o8 + 4, none⟩ = some (.int .i64 x.p.off) ∧ W'.cell? ⟨g8, o8 + 5, none⟩ = some (.int .u8 x.p.ttl) ∧ W'.cell? ⟨g8, o8 + 6, none⟩ = some (.int .u8 x.p.proto) ∧ W'.cell? ⟨g8, o8 + 7, none⟩ = some (.int .u32 x.p.src) ∧ W'.cell? ⟨g8, o8 + 8, none⟩ = some (.int .u32 x.p.dst) ∧ W'.cell? ⟨g8, o8 + 9, none⟩ = some (.slice B8 x.p.b.length d8) ∧ W'.cell? ⟨g, o + k * 10, none⟩ = some (.int .u8 x.p.tos) ∧ W'.cell? ⟨g, o + k * 10 + 1, none⟩ = some (.int .u16 x.p.id) ∧ W'.cell? ⟨g, o + k * 10 + 2, none⟩ = some (.bool x.p.df) ∧ W'.cell? ⟨g, o + k * 10 + 3, none⟩ = some (.bool x.p.mf) ∧ W'.cell? ⟨g, o + k * 10 + 4, none⟩ = some (.int .i64 x.p.off) ∧ W'.cell? ⟨g, o + k * 10 + 5, none⟩ = some (.int .u8 x.p.ttl) ∧ W'.cell? ⟨g, o + k * 10 + 6, none⟩ = some (.int .u8 x.p.proto) ∧ W'.cell? ⟨g, o + k * 10 + 7, none⟩ = some (.int .u32 x.p.src) ∧ W'.cell? ⟨g, o + k * 10 + 8, none⟩ = some (.int .u32 x.p.dst) ∧ W'.cell? ⟨g, o + k * 10 + 9, none⟩ = some (.slice x.B x.p.b.length x.c)) W') := Lib.hid (fun W' hW => by
          have a := HX8.out.below hW
          have b := HX7.out.below hW
          exact ⟨a.c0, a.c1, a.c2, a.c3, a.c4, a.c5, a.c6, a.c7, a.c8, a.c9, b.c0, b.c1, b.c2, b.c3, b.c4, b.c5, b.c6, b.c7, b.c8, b.c9⟩)
        have XO1 := Lib.hid (fun W (hW : Below w7.heap.size w7 W) => vOf_lit x.p HI.out.inn B8 d8 W (hI8.rd.below hW))
        have XO2 := Lib.hid (fun W (hW : Below w7.heap.size w7 W) => vOf_lit x.p HI.out.inn x.B x.c W ((HI.out.rd.below B7.out).below hW))
        have heq := fun W => refIp_eqB x.p x.p W
        simp only [ipB_same] at heq
        clear hX8 hI8 hm7 hl7 E7 L7
        go_region_held_law (fun W' => W'.cell? ⟨g8, o8, none⟩ = some (.int .u8 x.p.tos) ∧ W'.cell? ⟨g8, o8 + 1, none⟩ = some (.int .u16 x.p.id) ∧ W'.cell? ⟨g8, o8 + 2, none⟩ = some (.bool x.p.df) ∧ W'.cell? ⟨g8, o8 + 3, none⟩ = some (.bool x.p.mf) ∧ W'.cell? ⟨g8, o8 + 4, none⟩ = some (.int .i64 x.p.off) ∧ W'.cell? ⟨g8, o8 + 5, none⟩ = some (.int .u8 x.p.ttl) ∧ W'.cell? ⟨g8, o8 + 6, none⟩ = some (.int .u8 x.p.proto) ∧ W'.cell? ⟨g8, o8 + 7, none⟩ = some (.int .u32 x.p.src) ∧ W'.cell? ⟨g8, o8 + 8, none⟩ = some (.int .u32 x.p.dst) ∧ W'.cell? ⟨g8, o8 + 9, none⟩ = some (.slice B8 x.p.b.length d8) ∧ W'.cell? ⟨g, o + k * 10, none⟩ = some (.int .u8 x.p.tos) ∧ W'.cell? ⟨g, o + k * 10 + 1, none⟩ = some (.int .u16 x.p.id) ∧ W'.cell? ⟨g, o + k * 10 + 2, none⟩ = some (.bool x.p.df) ∧ W'.cell? ⟨g, o + k * 10 + 3, none⟩ = some (.bool x.p.mf) ∧ W'.cell? ⟨g, o + k * 10 + 4, none⟩ = some (.int .i64 x.p.off) ∧ W'.cell? ⟨g, o + k * 10 + 5, none⟩ = some (.int .u8 x.p.ttl) ∧ W'.cell? ⟨g, o + k * 10 + 6, none⟩ = some (.int .u8 x.p.proto) ∧ W'.cell? ⟨g, o + k * 10 + 7, none⟩ = some (.int .u32 x.p.src) ∧ W'.cell? ⟨g, o + k * 10 + 8, none⟩ = some (.int .u32 x.p.dst) ∧ W'.cell? ⟨g, o + k * 10 + 9, none⟩ = some (.slice x.B x.p.b.length x.c))
          (first | exact KS.out _ (below_drewF w7) | exact KS.out _ HQ.out)
          (first
            | (go_at_call 14; (with_reducible refine (XO1.out _ HQ.out).mono ?_); rintro e wm ⟨rfl, hB⟩; (have HQ := Lib.hid (below_to HQ.out hB HQ.out.size)); clear hB)
            | (go_at_call 14; (with_reducible refine (XO2.out _ HQ.out).mono ?_); rintro e wm ⟨rfl, hB⟩; (have HQ := Lib.hid (below_to HQ.out hB HQ.out.size)); clear hB)
            | (go_at_call 14; (with_reducible refine (XO1.out _ (below_drewF w7)).mono ?_); rintro e wm ⟨rfl, hB⟩; (have HQ := Lib.hid (below_to (below_drewF w7) hB (below_drewF w7).size)); clear hB)
            | (go_at_call 14; (with_reducible refine (XO2.out _ (below_drewF w7)).mono ?_); rintro e wm ⟨rfl, hB⟩; (have HQ := Lib.hid (below_to (below_drewF w7) hB (below_drewF w7).size)); clear hB))
        all_goals
          clear KS XO1 XO2
          go_wp2_with fail
          exact ⟨⟨k + 1, by simp, by omega, below_to (below_to HB.out B7.out HB.out.size) HQ.out (Nat.le_trans HB.out.size B7.out.size)⟩, by simp [intOf]; omega⟩
      · have q1 : decide ((k : Int) < (l.length : Int)) = false := decide_eq_false (by omega)
        have MG6 := Lib.hid ((HB.out.block G (Array.getElem?_eq_some_iff.1 M5.out).1).trans M5.out)
        have XSp := Lib.hid (XX.out p.noDf (some ⟨g5, 0, none⟩) c5 mt2 wr (Ip.noDf_in Hfit.out) hfl HC5.out (by omega) (by omega) (R5.out.below HB.out))
        have XSp' : Hid (Calls Tryd.prog 15 #[.agg #[.int .u8 p.tos, .int .u16 p.id, .bool false, .bool p.mf, .int .i64 p.off, .int .u8 p.ttl, .int .u8 p.proto, .int .u32 p.src, .int .u32 p.dst, .slice (some ⟨g5, 0, none⟩) p.few.b.length c5], .int .i64 mt2] wr (SplitVal p.noDf mt2 wr)) := XSp
        clear XSp
        obtain ⟨c0, c1, c2, c3, c4, c5', c6, c7, c8, c9⟩ : wr.cell? ⟨G, 0, none⟩ = some (.int .u8 p.tos) ∧ wr.cell? ⟨G, 1, none⟩ = some (.int .u16 p.id) ∧ wr.cell? ⟨G, 2, none⟩ = some (.bool false) ∧ wr.cell? ⟨G, 3, none⟩ = some (.bool p.mf) ∧ wr.cell? ⟨G, 4, none⟩ = some (.int .i64 p.off) ∧ wr.cell? ⟨G, 5, none⟩ = some (.int .u8 p.ttl) ∧ wr.cell? ⟨G, 6, none⟩ = some (.int .u8 p.proto) ∧ wr.cell? ⟨G, 7, none⟩ = some (.int .u32 p.src) ∧ wr.cell? ⟨G, 8, none⟩ = some (.int .u32 p.dst) ∧ wr.cell? ⟨G, 9, none⟩ = some (.slice (some ⟨g5, 0, none⟩) p.few.b.length c5) := IpAt.cells (p := p.noDf) (bv := .slice (some ⟨g5, 0, none⟩) p.few.b.length c5) MG6.out
        have h0 : splitC p.noDf mt2 = 0 := by rw [splitC_noDf (by omega)]; exact Hbad.out
        have H0 := Lib.hid h0
        clear h0
        go_upto_region 15 with (go_at_call 15; (with_reducible refine XSp'.out.mono ?_); rintro e w7 ⟨l7, A7, d7, ev7, rfl, hl71, hl72, hE, hlm, hRP, hB⟩; (have E7 := Lib.hid hE); (have L7 := Lib.hid hlm); (have B7 := Lib.hid hB); clear hE hlm hRP hB)
        clear c0 c1 c2 c3 c4 c5' c6 c7 c8 c9 XSp'
        obtain rfl : ev7 = .nilIface := by
          rcases E7.out with ⟨_, h⟩ | ⟨h, _⟩
          · exact h
          · exact absurd H0.out h
        have hm7 := L7.out
        rw [if_pos H0.out] at hm7
        have hle := split_more (p := p.noDf) hmt.1 hmt2'.1
        rw [← hm7, ← HLM.out, List.length_map, List.length_map] at hle
        have q5 : decide ((l7.length : Int) ≤ (l.length : Int)) = true := decide_eq_true (by omega)
        have q6 : decide (0 < (l7.length : Int)) = true := decide_eq_true (by omega)
        have q7 : decide ((l7.length : Int) > 0) = true := decide_eq_true (by omega)
        have q8 : decide (l7.length ≤ l.length) = true := decide_eq_true hle.1
        have q9 : decide (0 < l7.length) = true := decide_eq_true hle.2
        have Hle := Lib.hid hle
        clear hm7 hle E7 L7
        go_wp2_with fail
        go_ret
        refine ⟨?_, below_to (below_to (HGe.out ▸ Bw5.out) HB.out (by rw [HGe.out]; have := Bw5.out.size; have := (Array.getElem?_eq_some_iff.1 M5.out).1; omega)) B7.out (by rw [HGe.out]; have := HB.out.size; have := (Array.getElem?_eq_some_iff.1 M5.out).1; omega)⟩
        have hle := Hle.out
        first | rfl | (simp; omega)
  · have hbad : p.noDf.bad ≠ 0 := by rw [hsc] at hne; exact hne
    have XR := Lib.hid (right_any p.noDf (some ⟨g5, 0, none⟩) c5 w5 (by show p.few.b.length ≤ _; omega))
    have XR' : Hid (Calls Tryd.prog 21 #[.agg #[.int .u8 p.tos, .int .u16 p.id, .bool false, .bool p.mf, .int .i64 p.off, .int .u8 p.ttl, .int .u8 p.proto, .int .u32 p.src, .int .u32 p.dst, .slice (some ⟨g5, 0, none⟩) p.few.b.length c5]] w5 (RightTold p.noDf w5)) := XR
    obtain ⟨c0, c1, c2, c3, c4, c5', c6, c7, c8, c9⟩ : w5.cell? ⟨G, 0, none⟩ = some (.int .u8 p.tos) ∧ w5.cell? ⟨G, 1, none⟩ = some (.int .u16 p.id) ∧ w5.cell? ⟨G, 2, none⟩ = some (.bool false) ∧ w5.cell? ⟨G, 3, none⟩ = some (.bool p.mf) ∧ w5.cell? ⟨G, 4, none⟩ = some (.int .i64 p.off) ∧ w5.cell? ⟨G, 5, none⟩ = some (.int .u8 p.ttl) ∧ w5.cell? ⟨G, 6, none⟩ = some (.int .u8 p.proto) ∧ w5.cell? ⟨G, 7, none⟩ = some (.int .u32 p.src) ∧ w5.cell? ⟨G, 8, none⟩ = some (.int .u32 p.dst) ∧ w5.cell? ⟨G, 9, none⟩ = some (.slice (some ⟨g5, 0, none⟩) p.few.b.length c5) := IpAt.cells (p := p.noDf) (bv := .slice (some ⟨g5, 0, none⟩) p.few.b.length c5) M5.out
    have Hbad := Lib.hid hbad
    clear XR hbad hne hch hsc E5
    go_wp2_with (go_at_call 21; (with_reducible refine XR'.out.mono ?_); intro e w6 hT; (obtain ⟨y6, rfl, _, hB6⟩ := hT.bad Hbad.out); (have B6 := Lib.hid hB6); clear hB6 hT)
    go_ret
    exact ⟨rfl, below_to (HGe.out ▸ Bw5.out) B6.out (by rw [HGe.out]; have := Bw5.out.size; have := (Array.getElem?_eq_some_iff.1 M5.out).1; omega)⟩
end Go.Proofs.YtfaimdopaocpkaaDoor
namespace Go.Proofs.YtfaimdopaocpkaaDoor
open Go Go.ChangeShapes Go.WideShapes Go.RowKit

/-- The contract. -/
def FragTwiceDoes : Prop := ∀ (p0 : Ip) (A0 : Option Addr) (c0 : Nat) (n1 : Int) (n2 : Int) (w : World), Hdl w → p0.Fit → Rd w (.slice A0 p0.b.length c0) p0.b → c0 ≤ 9223372036854775807 → -9223372036854775808 ≤ n1 → n1 ≤ 9223372036854775807 → -9223372036854775808 ≤ n2 → n2 ≤ 9223372036854775807 → Calls Tryd.prog 11 #[p0.val (.slice A0 p0.b.length c0), .int .i64 n1, .int .i64 n2] w fun e w' => e = .returned (.bool true) ∧ Below w.heap.size w w'

set_option maxRecDepth 100000 in
theorem fragTwice_lifted (hc : FragTwiceDoes) (os : Os) (started : os.Started) (H : Type) (enc : TypeId × Value → H) :
    ReturnsInHanded {} Tryd.checked os 11 .any (fun w args => (Rows.fragTwiceSpec.pre enc Tryd.prog Tryd.f11 [] false w args ∧ laidMetH Tryd.prog laidList w) ∧ sizedMet enc Tryd.prog Tryd.f11 (OpenSpec.ofChange Rows.fragTwiceSpec) false w args)
      (Rows.fragTwiceSpec.post enc Tryd.prog Tryd.f11 false true false false) := by
  refine returnsInHanded_of_change_and (C := Tryd.checked) (X := fun w _ => laidMetH Tryd.prog laidList w) (fun _ _ _ hh h => h.of_heap hh) ownGodebug started (by kernel_rfl) Tryd.func11
    (ChangeSpec.witness_at (enc := enc) (C := Tryd.checked) (os := os) (X := fun w _ => laidMetH Tryd.prog laidList w) false (laidWorld os) #[.agg #[.int .u8 0, .int .u16 0, .bool false, .bool false, .int .i64 0, .int .u8 0, .int .u8 0, .int .u32 0, .int .u32 0, .slice none 0 0], .int .i64 0, .int .i64 0] 8 rfl (by kernel_rfl) (by kernel_rfl) (by kernel_rfl) (by kernel_rfl) (by kernel_rfl) (laidWorld_met os _)) ?_
  intro W base args ds gs before hval0 hW _ _ hL _
  have hval : ∀ (j : Nat) t v, Tryd.f11.params[j]? = some t → args[j]? = some v → Value.okWide Tryd.prog W .any base t v := hval0
  have hW' := hW
  obtain ⟨p, q, hA0, hV0, rfl, hfz, hnd⟩ := hW
  have hA : DataW.TrodAll enc Tryd.prog W 0 (fun _ => true) true Tryd.f11.params.toList args.toList ds p := hA0
  have hV : DataW.TrodVars enc Tryd.prog W (fun _ => true) [] gs q := hV0
  rw [Tryd.params11] at hA hval
  obtain ⟨v0, vs0, d0, ds0, p0, q0, hargs, rfl, rfl, h0, r0⟩ := trodAll_cons hA
  obtain ⟨v1, vs1, d1, ds1, p1, q1, rfl, rfl, rfl, h1, r1⟩ := trodAll_cons r0
  obtain ⟨v2, vs2, d2, ds2, p2, q2, rfl, rfl, rfl, h2, r2⟩ := trodAll_cons r1
  obtain ⟨rfl, rfl, rfl⟩ := trodAll_nil r2
  obtain rfl : args = #[v0, v1, v2] := by cases args; simpa using hargs
  obtain ⟨rfl, rfl⟩ := trodVars_none hV
  obtain ⟨p0, A0, c0, rfl, b0, e0, a0⟩ := open_ip (hval 0 27 v0 rfl rfl) h0
  obtain ⟨n1, rfl, rfl, rfl, w1⟩ := open_int Tryd.underlying3 (hval 1 3 v1 rfl rfl) h1
  obtain ⟨n2, rfl, rfl, rfl, w2⟩ := open_int Tryd.underlying3 (hval 2 3 v2 rfl rfl) h2
  refine (hc p0 A0 c0 n1 n2 W (hdl_of_laid hL) a0 e0 b0 (i64_wf w1).1 (i64_wf w1).2 (i64_wf w2).1 (i64_wf w2).2).mono fun e W' ⟨he, hb⟩ => ?_
  subst he
  exact ⟨_, rfl, law_post rfl rfl rfl (by rw [Tryd.params11]; intro t ht; simp at ht; (first | (rcases ht with rfl | rfl | rfl) | (rcases ht with rfl | rfl)) <;> (try subst ht) <;> exact ⟨by kernel_rfl, by rw [typesSize]; decide⟩) hW' hb⟩
theorem fragTwice_row (hc : FragTwiceDoes) : Rows.FragTwiceSaid :=
  OpenClaim.holds_of_wide 11 Tryd.f11 rfl rfl rfl rfl rfl rfl rfl ⟨rfl, rfl, rfl, rfl, rfl⟩ rfl rfl rfl rfl rfl (by kernel_rfl) Tryd.func11 (by kernel_rfl)
    (of_decide_eq_true (by kernel_rfl)) (by unfold Func.isWrapper; rw [if_neg (of_decide_eq_false (by kernel_rfl))]; exact ⟨rfl, rfl⟩)
    (fun os started H enc _ => fragTwice_lifted hc os started H enc)
theorem fragTwice_card (hrow : Rows.FragTwiceSaid) : Rows.FragTwiceCardSaid :=
  Claim7.holds_tied_plain_at .later [] [.handle] true _ true
    hrow (fun _ h => by cases h) (by kernel_rfl) (fun _ h => by cases h) fragTwice_row_tie rfl ⟨rfl, rfl⟩ (by kernel_rfl) rfl
    (fun f fn hf hfn => by
      obtain rfl : f = 11 := Option.some.inj ((show Tryd.prog.funcNamed "underpass/underpasslaw10.FragTwice" = some 11 by kernel_rfl).symm.trans hf) |>.symm
      obtain rfl : fn = Tryd.f11 := (Option.some.inj (Tryd.func11.symm.trans hfn)).symm
      exact ⟨by kernel_rfl, fun j t ht => by
        rw [Tryd.params11] at ht
        rcases j with _ | _ | _ | j
        · have h3 : t = 27 := by simpa using ht.symm
          subst h3
          exact (show Tryd.prog.wantsStandIn 27 = false by kernel_rfl)
        · have h3 : t = 3 := by simpa using ht.symm
          subst h3
          exact (show Tryd.prog.wantsStandIn 3 = false by kernel_rfl)
        · have h3 : t = 3 := by simpa using ht.symm
          subst h3
          exact (show Tryd.prog.wantsStandIn 3 = false by kernel_rfl)
        · simp at ht⟩)
    (by kernel_rfl)
end Go.Proofs.YtfaimdopaocpkaaDoor
namespace Go.Proofs.YtfaimdopaocpkaaDoor
theorem fragTwice_any : FragTwiceDoes := fun p A c x y w hg hf hr hc _ _ _ _ => fragTwice_of split_ok fshown_any p A c x y w hg hf hc hr
theorem fragTwice_holds : Rows.FragTwiceCardSaid := fragTwice_card (fragTwice_row fragTwice_any)
end Go.Proofs.YtfaimdopaocpkaaDoor
