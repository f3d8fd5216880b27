/-
  What is proved: FragFits by contract, out of that of Split: the law returns true, and older memory is as it was.
  Conditions: those of the arguments; Split's contract, and that of 'shown', handed in.
  What is proved: the row and the tied card of FragFits out of its function's contract.
  Conditions: the contract, handed in; the listed package-level variables start as the program's text lays them (the card ties them).
  What is proved: FragFits: for any packet and any MTU the packet is one part of itself just when it fits; the law returns true and leaves its arguments as they were (the tied card).
  Conditions: the listed package-level variables start as the program's text lays them (the card ties them).
-/
import Derived.Test.YtfaimdopaocpkaaDoorMFg
import Derived.Test.YtfaimdopaocpkaaDoorVBytes
import Derived.Deep.DeepCutAuto
import Derived.Deep.CutBlock
import Derived.Test.YtfaimdopaocpkaaDoorVLift
import Derived.Test.YtfaimdopaocpkaaDoorCards
import Derived.Test.YtfaimdopaocpkaaDoorTie
import Derived.SevenTiedAt
import Derived.Test.YtfaimdopaocpkaaDoorMFs
namespace Go.Proofs.YtfaimdopaocpkaaDoor
open Go.RowKit

set_option maxRecDepth 100000 in
set_option maxHeartbeats 8000000 in
theorem fragFits_of (XS : SpOk) (X0 : ∀ W, W.cell? ⟨0, 0, none⟩ = some (.iface 105 (.agg #[.pointer (some ⟨4, 35, none⟩)])) → Calls Tryd.prog 12 #[] W fun e w' => e = .returned (.bool true) ∧ Below W.heap.size W w')
    (p : Ip) (A : Option Addr) (c : Nat) (mtu : Int) (w : World) (hg : w.cell? ⟨0, 0, none⟩ = some (.iface 105 (.agg #[.pointer (some ⟨4, 35, none⟩)]))) (hfit : p.Fit) (hc : c ≤ 9223372036854775807) (hr : Rd w (.slice A p.b.length c) p.b) (hm1 : -9223372036854775808 ≤ mtu) (hm2 : mtu ≤ 9223372036854775807) :
    Calls Tryd.prog 5 #[.agg #[.int .u8 p.tos, .int .u16 p.id, .bool p.df, .bool p.mf, .int .i64 p.off, .int .u8 p.ttl, .int .u8 p.proto, .int .u32 p.src, .int .u32 p.dst, .slice A p.b.length c], .int .i64 mtu] w fun e w' => e = .returned (.bool true) ∧ Below w.heap.size w w' := by
  have Hfit := Lib.hid hfit
  have XSS := Lib.hid XS
  have hB0 : Below w.heap.size w (w.alloc (.cells #[.int .u8 p.tos, .int .u16 p.id, .bool p.df, .bool p.mf, .int .i64 p.off, .int .u8 p.ttl, .int .u8 p.proto, .int .u32 p.src, .int .u32 p.dst, .slice A p.b.length c] 27)) := (Below.refl _ w).alloc (Nat.le_refl _) _
  have X0 := Lib.hid (X0 _ ((hB0.cell (World.block_lt_of_cell? w _ hg)).trans hg))
  have M0 := Lib.hid (heap_alloc_new w (.cells #[.int .u8 p.tos, .int .u16 p.id, .bool p.df, .bool p.mf, .int .i64 p.off, .int .u8 p.ttl, .int .u8 p.proto, .int .u32 p.src, .int .u32 p.dst, .slice A p.b.length c] 27))
  have B0 := Lib.hid hB0
  have R0 := Lib.hid (hr.below hB0)
  have hfl : p.few.b.length ≤ 2000 := p.plain_len
  clear XS hfit hg hB0 hr
  go_enter Tryd.func5, Tryd.ntmps5
  go_upto_region 1 with fail
  generalize w.alloc (.cells #[.int .u8 p.tos, .int .u16 p.id, .bool p.df, .bool p.mf, .int .i64 p.off, .int .u8 p.ttl, .int .u8 p.proto, .int .u32 p.src, .int .u32 p.dst, .slice A p.b.length c] 27) = w0 at X0 M0 B0 R0 ⊢
  obtain ⟨G, hG⟩ : ∃ G, w.heap.size = G := ⟨_, rfl⟩
  have HGe := Lib.hid hG
  rw [hG] at M0 B0 ⊢
  clear hG
  go_upto_region 2 with (go_at_call 12; (with_reducible refine X0.out.mono ?_); rintro e w1 ⟨rfl, hB⟩; (have B1 := Lib.hid hB); clear hB)
  have M1 := Lib.hid ((B1.out.block G (Array.getElem?_eq_some_iff.1 M0.out).1).trans M0.out)
  have R1 := Lib.hid (R0.out.below B1.out)
  have Bw1 := Lib.hid (below_to B0.out B1.out (by have := B0.out.size; have := (Array.getElem?_eq_some_iff.1 M0.out).1; omega))
  clear X0 M0 B0 R0 B1
  have XF := Lib.hid (few2_any p A c w1 R1.out hc)
  unfold FewTold Ip.val Ip.row at XF
  obtain ⟨c0, c1, c2, c3, c4, c5', c6, c7, c8, c9⟩ := IpAt.cells (p := p) (bv := .slice A p.b.length c) M1.out
  go_upto_region 3 with (first
    | (go_at_call 13; (with_reducible refine XF.out.mono ?_); rintro e w2 ⟨g5, c5, rfl, hr5, hg5, hB5, hcc5⟩; (have M2 := Lib.hid ((hB5.block G (Array.getElem?_eq_some_iff.1 M1.out).1).trans M1.out)); (have B2 := Lib.hid hB5); (have R2 := Lib.hid hr5); (have HC5 := Lib.hid hcc5); (have NG : Hid (g5 ≠ G) := Lib.hid (by have := (Array.getElem?_eq_some_iff.1 M1.out).1; omega)); clear hr5 hg5 hB5 hcc5)
    | (refine wpList_store_row rfl 27 (.tmp 2) (.tmp 15) rfl G #[.int .u8 p.tos, .int .u16 p.id, .bool p.df, .bool p.mf, .int .i64 p.off, .int .u8 p.ttl, .int .u8 p.proto, .int .u32 p.src, .int .u32 p.dst, .slice (some ⟨g5, 0, none⟩) p.few.b.length c5] rfl rfl 27 _ M2.out ipSize rfl (by simp [Value.oneCell']) ?_))
  have M3 := Lib.hid (setRow_heap _ _ _ #[.int .u8 p.tos, .int .u16 p.id, .bool p.df, .bool p.mf, .int .i64 p.off, .int .u8 p.ttl, .int .u8 p.proto, .int .u32 p.src, .int .u32 p.dst, .slice (some ⟨g5, 0, none⟩) p.few.b.length c5] _ _ M2.out)
  have R3 := Lib.hid (rd_row R2.out NG.out #[.int .u8 p.tos, .int .u16 p.id, .bool p.df, .bool p.mf, .int .i64 p.off, .int .u8 p.ttl, .int .u8 p.proto, .int .u32 p.src, .int .u32 p.dst, .slice (some ⟨g5, 0, none⟩) p.few.b.length c5])
  have Bw3 := Lib.hid (below_setRow (below_to Bw1.out B2.out (by have := Bw1.out.size; have := (Array.getElem?_eq_some_iff.1 M1.out).1; omega)) (Nat.le_refl G) #[.int .u8 p.tos, .int .u16 p.id, .bool p.df, .bool p.mf, .int .i64 p.off, .int .u8 p.ttl, .int .u8 p.proto, .int .u32 p.src, .int .u32 p.dst, .slice (some ⟨g5, 0, none⟩) p.few.b.length c5])
  generalize w2.setRow G #[.int .u8 p.tos, .int .u16 p.id, .bool p.df, .bool p.mf, .int .i64 p.off, .int .u8 p.ttl, .int .u8 p.proto, .int .u32 p.src, .int .u32 p.dst, .slice (some ⟨g5, 0, none⟩) p.few.b.length c5] = w3 at M3 R3 Bw3 ⊢
  clear c0 c1 c2 c3 c4 c5' c6 c7 c8 c9 XF R1 R2 B2 M1 M2 Bw1

  have XSp : Hid (Calls Tryd.prog 15 #[.agg #[.int .u8 p.tos, .int .u16 p.id, .bool p.df, .bool p.mf, .int .i64 p.off, .int .u8 p.ttl, .int .u8 p.proto, .int .u32 p.src, .int .u32 p.dst, .slice (some ⟨g5, 0, none⟩) p.few.b.length c5], .int .i64 mtu] w3 (SplitVal p.few mtu w3)) := Lib.hid (XSS.out p.few (some ⟨g5, 0, none⟩) c5 mtu w3 (Ip.few_in Hfit.out) hfl HC5.out hm1 hm2 R3.out)
  obtain ⟨c0, c1, c2, c3, c4, c5', c6, c7, c8, c9⟩ : w3.cell? ⟨G, 0, none⟩ = some (.int .u8 p.tos) ∧ w3.cell? ⟨G, 1, none⟩ = some (.int .u16 p.id) ∧ w3.cell? ⟨G, 2, none⟩ = some (.bool p.df) ∧ w3.cell? ⟨G, 3, none⟩ = some (.bool p.mf) ∧ w3.cell? ⟨G, 4, none⟩ = some (.int .i64 p.off) ∧ w3.cell? ⟨G, 5, none⟩ = some (.int .u8 p.ttl) ∧ w3.cell? ⟨G, 6, none⟩ = some (.int .u8 p.proto) ∧ w3.cell? ⟨G, 7, none⟩ = some (.int .u32 p.src) ∧ w3.cell? ⟨G, 8, none⟩ = some (.int .u32 p.dst) ∧ w3.cell? ⟨G, 9, none⟩ = some (.slice (some ⟨g5, 0, none⟩) p.few.b.length c5) := IpAt.cells (p := p.few) (bv := .slice (some ⟨g5, 0, none⟩) p.few.b.length c5) M3.out
  go_upto_region 4 with (go_at_call 15; (with_reducible refine XSp.out.mono ?_); rintro e w5 ⟨l, A5, d5, ev, rfl, hl1, hl2, hE, hlm, hRP, hB⟩; (have E5 := Lib.hid hE); (have L5 := Lib.hid hlm); (have P5 := Lib.hid hRP); (have B5 := Lib.hid hB); clear hE hlm hRP hB)
  clear c0 c1 c2 c3 c4 c5' c6 c7 c8 c9 XSp
  have M5 := Lib.hid ((B5.out.block G (Array.getElem?_eq_some_iff.1 M3.out).1).trans M3.out)
  have Bw5 := Lib.hid (below_to (HGe.out ▸ Bw3.out : Below w.heap.size w w3) B5.out (HGe.out ▸ Bw3.out : Below w.heap.size w w3).size)
  have R5 := Lib.hid (R3.out.below B5.out)
  clear M3 R3 B5 Bw3
  obtain ⟨c0, c1, c2, c3, c4, c5', c6, c7, c8, c9⟩ : w5.cell? ⟨G, 0, none⟩ = some (.int .u8 p.tos) ∧ w5.cell? ⟨G, 1, none⟩ = some (.int .u16 p.id) ∧ w5.cell? ⟨G, 2, none⟩ = some (.bool p.df) ∧ w5.cell? ⟨G, 3, none⟩ = some (.bool p.mf) ∧ w5.cell? ⟨G, 4, none⟩ = some (.int .i64 p.off) ∧ w5.cell? ⟨G, 5, none⟩ = some (.int .u8 p.ttl) ∧ w5.cell? ⟨G, 6, none⟩ = some (.int .u8 p.proto) ∧ w5.cell? ⟨G, 7, none⟩ = some (.int .u32 p.src) ∧ w5.cell? ⟨G, 8, none⟩ = some (.int .u32 p.dst) ∧ w5.cell? ⟨G, 9, none⟩ = some (.slice (some ⟨g5, 0, none⟩) p.few.b.length c5) := IpAt.cells (p := p.few) (bv := .slice (some ⟨g5, 0, none⟩) p.few.b.length c5) M5.out
  have q20 : IntKind.i64.wrap (20 + (p.few.b.length : Int)) = 20 + (p.few.b.length : Int) := by rw [IntKind.wrap_i64]; omega
  rcases E5.out with ⟨h0, rfl⟩ | ⟨hne, y, rfl, hch⟩
  · have hok := splitC_ok h0
    have hlm := L5.out
    rw [if_pos h0] at hlm
    obtain ⟨pos, hpos⟩ := fit_row hok.1 hok.2
    have HP := Lib.hid hpos
    have HLM := Lib.hid hlm
    have HLL : Hid ((splitL p.few mtu).length = l.length) := Lib.hid (by rw [← hlm, List.length_map])
    have hR := (Ip.right_iff _).1 hok.2
    have hof1 : 0 ≤ p.off := hR.off0
    have hof2 : p.off + (p.few.b.length : Int) ≤ 65515 := hR.far
    have hlpos : 0 < l.length := by have := hpos.ne; rw [HLL.out] at this; exact this
    clear hlm hR hpos h0 E5 L5 hok
    go_wp2_with fail
    clear c0 c1 c2 c3 c4 c5' c6 c7 c8 c9
    go_loopw [9, 10, 11] (fun s9 s10 s11 wr => ∃ i : Nat, s9 = .int .i64 (p.off + (pos i : Int)) ∧ s10 = .string (txt (p.few.b.take (pos i))) ∧ s11 = .int .i64 (i : Int) ∧ i ≤ l.length ∧ Below w5.heap.size w5 wr) (fun _ _ s11 _ => l.length - (intOf s11).toNat)
    case atStart => exact ⟨0, by rw [HP.out.start]; simp, by rw [HP.out.start]; rfl, rfl, Nat.zero_le _, Below.refl _ _⟩
    case round =>
      obtain ⟨i, rfl, rfl, rfl, hi, hB⟩ := hrel
      have HB := Lib.hid hB
      have MGr := Lib.hid ((hB.block G (Array.getElem?_eq_some_iff.1 M5.out).1).trans M5.out)
      clear hB
      by_cases hlt : i < l.length
      · have q1 : decide ((i : Int) < (l.length : Int)) = true := decide_eq_true (by omega)
        obtain ⟨x, hx⟩ : ∃ x, l[i]? = some x := ⟨l[i], List.getElem?_eq_getElem hlt⟩
        obtain ⟨g, o, rfl, hX, hI⟩ := (P5.out.below HB.out) i x hx
        have hxp : (splitL p.few mtu)[i]? = some x.p := by rw [← HLM.out, List.getElem?_map, hx]; rfl
        obtain ⟨hxb, hxm, hxn, hxle, hxe⟩ := HP.out.at_ i x.p hxp
        have HX := Lib.hid hX
        have HI := Lib.hid hI
        have HN : Hid ((pos (i + 1) : Int) = (pos i : Int) + (x.p.b.length : Int)) := Lib.hid (by omega)
        have HTK : Hid (p.few.b.take (pos i) ++ x.p.b = p.few.b.take (pos (i + 1))) := Lib.hid (by
          have e : x.p.b = (p.few.b.drop (pos i)).take x.p.b.length := congrArg Ip.b hxe
          rw [hxn, List.take_add, ← e])
        have q20x : IntKind.i64.wrap (20 + (x.p.b.length : Int)) = 20 + (x.p.b.length : Int) := by rw [IntKind.wrap_i64]; omega
        have qbx : decide (mtu < 20 + (x.p.b.length : Int)) = false := decide_eq_false (by omega)
        have qi : IntKind.i64.wrap ((i : Int) + 1) = (i : Int) + 1 := by rw [IntKind.wrap_i64]; omega
        have qa : IntKind.i64.wrap (p.off + (pos i : Int) + (x.p.b.length : Int)) = p.off + (pos i : Int) + (x.p.b.length : Int) := by rw [IntKind.wrap_i64]; omega
        have hsz : ¬ 9223372036854775807 < (txt (p.few.b.take (pos i))).size + (txt x.p.b).size := by rw [txt_size, txt_size, List.length_take]; omega
        clear hx hxp hX hI
        obtain ⟨dv, hdv⟩ : ∃ d, decide ((i : Int) + 1 < (l.length : Int)) = d := ⟨_, rfl⟩
        cases hmf : p.mf with
        | true =>
        have HPM := Lib.hid hmf
        have HMF : Hid (x.p.mf = true) := Lib.hid (by rw [hxe]; show (p.mf || _) = true; rw [hmf]; rfl)
        clear hmf
        obtain ⟨c0, c1, c2, c3, c4, c5', c6, c7, c8, c9⟩ : wr.cell? ⟨g, o + i * 10, none⟩ = some (.int .u8 p.tos) ∧ wr.cell? ⟨g, o + i * 10 + 1, none⟩ = some (.int .u16 p.id) ∧ wr.cell? ⟨g, o + i * 10 + 2, none⟩ = some (.bool p.df) ∧ wr.cell? ⟨g, o + i * 10 + 3, none⟩ = some (.bool true) ∧ wr.cell? ⟨g, o + i * 10 + 4, none⟩ = some (.int .i64 (p.off + (pos i : Int))) ∧ wr.cell? ⟨g, o + i * 10 + 5, none⟩ = some (.int .u8 p.ttl) ∧ wr.cell? ⟨g, o + i * 10 + 6, none⟩ = some (.int .u8 p.proto) ∧ wr.cell? ⟨g, o + i * 10 + 7, none⟩ = some (.int .u32 p.src) ∧ wr.cell? ⟨g, o + i * 10 + 8, none⟩ = some (.int .u32 p.dst) ∧ wr.cell? ⟨g, o + i * 10 + 9, none⟩ = some (.slice x.B x.p.b.length x.c) := by
          have h := HX.out
          have e0 : x.p.tos = p.tos := by rw [hxe]; rfl
          have e1 : x.p.id = p.id := by rw [hxe]; rfl
          have e2 : x.p.df = p.df := by rw [hxe]; rfl
          have e3 : x.p.mf = true := HMF.out
          have e4 : x.p.off = p.off + (pos i : Int) := by rw [hxe]; rfl
          have e5 : x.p.ttl = p.ttl := by rw [hxe]; rfl
          have e6 : x.p.proto = p.proto := by rw [hxe]; rfl
          have e7 : x.p.src = p.src := by rw [hxe]; rfl
          have e8 : x.p.dst = p.dst := by rw [hxe]; rfl
          exact ⟨e0 ▸ h.c0, e1 ▸ h.c1, e2 ▸ h.c2, e3 ▸ h.c3, e4 ▸ h.c4, e5 ▸ h.c5, e6 ▸ h.c6, e7 ▸ h.c7, e8 ▸ h.c8, h.c9⟩
        have XRt : Hid (∀ W, Calls Tryd.prog 21 #[.agg #[.int .u8 p.tos, .int .u16 p.id, .bool p.df, .bool true, .int .i64 (p.off + (pos i : Int)), .int .u8 p.ttl, .int .u8 p.proto, .int .u32 p.src, .int .u32 p.dst, .slice x.B x.p.b.length x.c]] W fun e w' => e = .returned .nilIface ∧ Below W.heap.size W w') := Lib.hid (fun W => by
          have e : Ip.val x.p (.slice x.B x.p.b.length x.c) = .agg #[.int .u8 p.tos, .int .u16 p.id, .bool p.df, .bool true, .int .i64 (p.off + (pos i : Int)), .int .u8 p.ttl, .int .u8 p.proto, .int .u32 p.src, .int .u32 p.dst, .slice x.B x.p.b.length x.c] := by
            have e3 : x.p.mf = true := HMF.out
            unfold Ip.val Ip.row
            rw [e3]
            have e4 : x.p.off = p.off + (pos i : Int) := by rw [hxe]; rfl
            rw [e4, show x.p.tos = p.tos by rw [hxe]; rfl, show x.p.id = p.id by rw [hxe]; rfl, show x.p.df = p.df by rw [hxe]; rfl, show x.p.ttl = p.ttl by rw [hxe]; rfl, show x.p.proto = p.proto by rw [hxe]; rfl, show x.p.src = p.src by rw [hxe]; rfl, show x.p.dst = p.dst by rw [hxe]; rfl]
          rw [← e]
          refine (right_any x.p x.B x.c W (by have := HI.out.few; omega)).mono ?_
          intro e w' h
          exact h.good hxb)
        clear hxe hxb
        go_upto_region 13 with (refine wpList_store_row rfl 27 (.tmp 12) (.tmp 63) rfl wr.heap.size #[.int .u8 p.tos, .int .u16 p.id, .bool p.df, .bool true, .int .i64 (p.off + (pos i : Int)), .int .u8 p.ttl, .int .u8 p.proto, .int .u32 p.src, .int .u32 p.dst, .slice x.B x.p.b.length x.c] rfl rfl 27 _ (heap_alloc_new wr _) ipSize rfl (by simp [Value.oneCell']) ?_; rw [setRow_alloc])
        clear c0 c1 c2 c3 c4 c5' c6 c7 c8 c9
        have hB8 : Below wr.heap.size wr (wr.alloc (.cells #[.int .u8 p.tos, .int .u16 p.id, .bool p.df, .bool true, .int .i64 (p.off + (pos i : Int)), .int .u8 p.ttl, .int .u8 p.proto, .int .u32 p.src, .int .u32 p.dst, .slice x.B x.p.b.length x.c] 27)) := (Below.refl _ wr).alloc (Nat.le_refl _) _
        have B8 := Lib.hid hB8
        have M8 := Lib.hid (heap_alloc_new wr (.cells #[.int .u8 p.tos, .int .u16 p.id, .bool p.df, .bool true, .int .i64 (p.off + (pos i : Int)), .int .u8 p.ttl, .int .u8 p.proto, .int .u32 p.src, .int .u32 p.dst, .slice x.B x.p.b.length x.c] 27))
        clear hB8
        generalize wr.alloc (.cells #[.int .u8 p.tos, .int .u16 p.id, .bool p.df, .bool true, .int .i64 (p.off + (pos i : Int)), .int .u8 p.ttl, .int .u8 p.proto, .int .u32 p.src, .int .u32 p.dst, .slice x.B x.p.b.length x.c] 27) = w8 at B8 M8 ⊢
        generalize wr.heap.size = G12 at M8 ⊢
        have KS : Hid (∀ W', Below w8.heap.size w8 W' → (fun W' => W'.cell? ⟨G12, 0, none⟩ = some (.int .u8 p.tos) ∧ W'.cell? ⟨G12, 1, none⟩ = some (.int .u16 p.id) ∧ W'.cell? ⟨G12, 2, none⟩ = some (.bool p.df) ∧ W'.cell? ⟨G12, 3, none⟩ = some (.bool true) ∧ W'.cell? ⟨G12, 4, none⟩ = some (.int .i64 (p.off + (pos i : Int))) ∧ W'.cell? ⟨G12, 5, none⟩ = some (.int .u8 p.ttl) ∧ W'.cell? ⟨G12, 6, none⟩ = some (.int .u8 p.proto) ∧ W'.cell? ⟨G12, 7, none⟩ = some (.int .u32 p.src) ∧ W'.cell? ⟨G12, 8, none⟩ = some (.int .u32 p.dst) ∧ W'.cell? ⟨G12, 9, none⟩ = some (.slice x.B x.p.b.length x.c) ∧ W'.cell? ⟨G, 0, none⟩ = some (.int .u8 p.tos) ∧ W'.cell? ⟨G, 1, none⟩ = some (.int .u16 p.id) ∧ W'.cell? ⟨G, 2, none⟩ = some (.bool p.df) ∧ W'.cell? ⟨G, 3, none⟩ = some (.bool true) ∧ W'.cell? ⟨G, 4, none⟩ = some (.int .i64 p.off) ∧ W'.cell? ⟨G, 5, none⟩ = some (.int .u8 p.ttl) ∧ W'.cell? ⟨G, 6, none⟩ = some (.int .u8 p.proto) ∧ W'.cell? ⟨G, 7, none⟩ = some (.int .u32 p.src) ∧ W'.cell? ⟨G, 8, none⟩ = some (.int .u32 p.dst) ∧ W'.cell? ⟨G, 9, none⟩ = some (.slice (some ⟨g5, 0, none⟩) p.few.b.length c5)) W') := Lib.hid (fun W' hW => by
            have a : W'.cell? ⟨G, 0, none⟩ = some (.int .u8 p.tos) ∧ W'.cell? ⟨G, 1, none⟩ = some (.int .u16 p.id) ∧ W'.cell? ⟨G, 2, none⟩ = some (.bool p.df) ∧ W'.cell? ⟨G, 3, none⟩ = some (.bool true) ∧ W'.cell? ⟨G, 4, none⟩ = some (.int .i64 p.off) ∧ W'.cell? ⟨G, 5, none⟩ = some (.int .u8 p.ttl) ∧ W'.cell? ⟨G, 6, none⟩ = some (.int .u8 p.proto) ∧ W'.cell? ⟨G, 7, none⟩ = some (.int .u32 p.src) ∧ W'.cell? ⟨G, 8, none⟩ = some (.int .u32 p.dst) ∧ W'.cell? ⟨G, 9, none⟩ = some (.slice (some ⟨g5, 0, none⟩) p.few.b.length c5) := by
              have a := IpAt.cells (p := p.few) (bv := .slice (some ⟨g5, 0, none⟩) p.few.b.length c5) ((hW.block G (Nat.lt_of_lt_of_le (Array.getElem?_eq_some_iff.1 MGr.out).1 B8.out.size)).trans ((B8.out.block G (Array.getElem?_eq_some_iff.1 MGr.out).1).trans MGr.out))
              have em : p.few.mf = true := HPM.out
              rw [em] at a
              exact a
            have b := IpAt.cells (p := ⟨p.tos, p.id, p.df, true, p.off + (pos i : Int), p.ttl, p.proto, p.src, p.dst, x.p.b⟩) (bv := .slice x.B x.p.b.length x.c) ((hW.block G12 (Array.getElem?_eq_some_iff.1 M8.out).1).trans M8.out)
            obtain ⟨a0, a1, a2, a3, a4, a5, a6, a7, a8, a9⟩ := a
            obtain ⟨b0, b1, b2, b3, b4, b5, b6, b7, b8, b9⟩ := b
            exact ⟨b0, b1, b2, b3, b4, b5, b6, b7, b8, b9, a0, a1, a2, a3, a4, a5, a6, a7, a8, a9⟩)
        obtain ⟨d0, d1, d2, d3, d4, d5', d6, d7, d8, d9, f0, f1, f2, f3, f4, f5, f6, f7, f8, f9⟩ := KS.out w8 (Below.refl _ _)
        go_wp2_with (go_at_call 21; (with_reducible refine (XRt.out w8).mono ?_); rintro e wm ⟨rfl, hB⟩; (obtain ⟨b0, b1, b2, b3, b4, b5, b6, b7, b8, b9, a0, a1, a2, a3, a4, a5, a6, a7, a8, a9⟩ := KS.out _ hB); (have cv : (convert 25 9 (.slice x.B x.p.b.length x.c)).run Tryd.prog wm = .ok (.string (txt x.p.b)) wm := convert_rd ((HI.out.rd.below B8.out).below hB)); (have HQ := Lib.hid hB); clear hB)
        exact ⟨⟨i + 1, by rw [HN.out]; simp [Int.add_assoc], by rw [txt_append, HTK.out], by simp, by omega, below_to (below_to HB.out B8.out HB.out.size) HQ.out (Nat.le_trans HB.out.size B8.out.size)⟩, by simp [intOf]; omega⟩
        | false =>
        have HPM := Lib.hid hmf
        have HMF : Hid (x.p.mf = dv) := Lib.hid (by
          rw [hxe]
          show (p.mf || decide (i + 1 < (splitL p.few mtu).length)) = dv
          rw [hmf, Bool.false_or, HLL.out, ← hdv]
          exact decide_eq_decide.2 (by omega))
        clear hmf
        obtain ⟨c0, c1, c2, c3, c4, c5', c6, c7, c8, c9⟩ : wr.cell? ⟨g, o + i * 10, none⟩ = some (.int .u8 p.tos) ∧ wr.cell? ⟨g, o + i * 10 + 1, none⟩ = some (.int .u16 p.id) ∧ wr.cell? ⟨g, o + i * 10 + 2, none⟩ = some (.bool p.df) ∧ wr.cell? ⟨g, o + i * 10 + 3, none⟩ = some (.bool dv) ∧ wr.cell? ⟨g, o + i * 10 + 4, none⟩ = some (.int .i64 (p.off + (pos i : Int))) ∧ wr.cell? ⟨g, o + i * 10 + 5, none⟩ = some (.int .u8 p.ttl) ∧ wr.cell? ⟨g, o + i * 10 + 6, none⟩ = some (.int .u8 p.proto) ∧ wr.cell? ⟨g, o + i * 10 + 7, none⟩ = some (.int .u32 p.src) ∧ wr.cell? ⟨g, o + i * 10 + 8, none⟩ = some (.int .u32 p.dst) ∧ wr.cell? ⟨g, o + i * 10 + 9, none⟩ = some (.slice x.B x.p.b.length x.c) := by
          have h := HX.out
          have e0 : x.p.tos = p.tos := by rw [hxe]; rfl
          have e1 : x.p.id = p.id := by rw [hxe]; rfl
          have e2 : x.p.df = p.df := by rw [hxe]; rfl
          have e3 : x.p.mf = dv := HMF.out
          have e4 : x.p.off = p.off + (pos i : Int) := by rw [hxe]; rfl
          have e5 : x.p.ttl = p.ttl := by rw [hxe]; rfl
          have e6 : x.p.proto = p.proto := by rw [hxe]; rfl
          have e7 : x.p.src = p.src := by rw [hxe]; rfl
          have e8 : x.p.dst = p.dst := by rw [hxe]; rfl
          exact ⟨e0 ▸ h.c0, e1 ▸ h.c1, e2 ▸ h.c2, e3 ▸ h.c3, e4 ▸ h.c4, e5 ▸ h.c5, e6 ▸ h.c6, e7 ▸ h.c7, e8 ▸ h.c8, h.c9⟩
        have XRt : Hid (∀ W, Calls Tryd.prog 21 #[.agg #[.int .u8 p.tos, .int .u16 p.id, .bool p.df, .bool dv, .int .i64 (p.off + (pos i : Int)), .int .u8 p.ttl, .int .u8 p.proto, .int .u32 p.src, .int .u32 p.dst, .slice x.B x.p.b.length x.c]] W fun e w' => e = .returned .nilIface ∧ Below W.heap.size W w') := Lib.hid (fun W => by
          have e : Ip.val x.p (.slice x.B x.p.b.length x.c) = .agg #[.int .u8 p.tos, .int .u16 p.id, .bool p.df, .bool dv, .int .i64 (p.off + (pos i : Int)), .int .u8 p.ttl, .int .u8 p.proto, .int .u32 p.src, .int .u32 p.dst, .slice x.B x.p.b.length x.c] := by
            have e3 : x.p.mf = dv := HMF.out
            unfold Ip.val Ip.row
            rw [e3]
            have e4 : x.p.off = p.off + (pos i : Int) := by rw [hxe]; rfl
            rw [e4, show x.p.tos = p.tos by rw [hxe]; rfl, show x.p.id = p.id by rw [hxe]; rfl, show x.p.df = p.df by rw [hxe]; rfl, show x.p.ttl = p.ttl by rw [hxe]; rfl, show x.p.proto = p.proto by rw [hxe]; rfl, show x.p.src = p.src by rw [hxe]; rfl, show x.p.dst = p.dst by rw [hxe]; rfl]
          rw [← e]
          refine (right_any x.p x.B x.c W (by have := HI.out.few; omega)).mono ?_
          intro e w' h
          exact h.good hxb)
        clear hxe hxb
        go_upto_region 13 with (refine wpList_store_row rfl 27 (.tmp 12) (.tmp 63) rfl wr.heap.size #[.int .u8 p.tos, .int .u16 p.id, .bool p.df, .bool dv, .int .i64 (p.off + (pos i : Int)), .int .u8 p.ttl, .int .u8 p.proto, .int .u32 p.src, .int .u32 p.dst, .slice x.B x.p.b.length x.c] rfl rfl 27 _ (heap_alloc_new wr _) ipSize rfl (by simp [Value.oneCell']) ?_; rw [setRow_alloc])
        clear c0 c1 c2 c3 c4 c5' c6 c7 c8 c9
        have hB8 : Below wr.heap.size wr (wr.alloc (.cells #[.int .u8 p.tos, .int .u16 p.id, .bool p.df, .bool dv, .int .i64 (p.off + (pos i : Int)), .int .u8 p.ttl, .int .u8 p.proto, .int .u32 p.src, .int .u32 p.dst, .slice x.B x.p.b.length x.c] 27)) := (Below.refl _ wr).alloc (Nat.le_refl _) _
        have B8 := Lib.hid hB8
        have M8 := Lib.hid (heap_alloc_new wr (.cells #[.int .u8 p.tos, .int .u16 p.id, .bool p.df, .bool dv, .int .i64 (p.off + (pos i : Int)), .int .u8 p.ttl, .int .u8 p.proto, .int .u32 p.src, .int .u32 p.dst, .slice x.B x.p.b.length x.c] 27))
        clear hB8
        generalize wr.alloc (.cells #[.int .u8 p.tos, .int .u16 p.id, .bool p.df, .bool dv, .int .i64 (p.off + (pos i : Int)), .int .u8 p.ttl, .int .u8 p.proto, .int .u32 p.src, .int .u32 p.dst, .slice x.B x.p.b.length x.c] 27) = w8 at B8 M8 ⊢
        generalize wr.heap.size = G12 at M8 ⊢
        have KS : Hid (∀ W', Below w8.heap.size w8 W' → (fun W' => W'.cell? ⟨G12, 0, none⟩ = some (.int .u8 p.tos) ∧ W'.cell? ⟨G12, 1, none⟩ = some (.int .u16 p.id) ∧ W'.cell? ⟨G12, 2, none⟩ = some (.bool p.df) ∧ W'.cell? ⟨G12, 3, none⟩ = some (.bool dv) ∧ W'.cell? ⟨G12, 4, none⟩ = some (.int .i64 (p.off + (pos i : Int))) ∧ W'.cell? ⟨G12, 5, none⟩ = some (.int .u8 p.ttl) ∧ W'.cell? ⟨G12, 6, none⟩ = some (.int .u8 p.proto) ∧ W'.cell? ⟨G12, 7, none⟩ = some (.int .u32 p.src) ∧ W'.cell? ⟨G12, 8, none⟩ = some (.int .u32 p.dst) ∧ W'.cell? ⟨G12, 9, none⟩ = some (.slice x.B x.p.b.length x.c) ∧ W'.cell? ⟨G, 0, none⟩ = some (.int .u8 p.tos) ∧ W'.cell? ⟨G, 1, none⟩ = some (.int .u16 p.id) ∧ W'.cell? ⟨G, 2, none⟩ = some (.bool p.df) ∧ W'.cell? ⟨G, 3, none⟩ = some (.bool false) ∧ W'.cell? ⟨G, 4, none⟩ = some (.int .i64 p.off) ∧ W'.cell? ⟨G, 5, none⟩ = some (.int .u8 p.ttl) ∧ W'.cell? ⟨G, 6, none⟩ = some (.int .u8 p.proto) ∧ W'.cell? ⟨G, 7, none⟩ = some (.int .u32 p.src) ∧ W'.cell? ⟨G, 8, none⟩ = some (.int .u32 p.dst) ∧ W'.cell? ⟨G, 9, none⟩ = some (.slice (some ⟨g5, 0, none⟩) p.few.b.length c5)) W') := Lib.hid (fun W' hW => by
            have a : W'.cell? ⟨G, 0, none⟩ = some (.int .u8 p.tos) ∧ W'.cell? ⟨G, 1, none⟩ = some (.int .u16 p.id) ∧ W'.cell? ⟨G, 2, none⟩ = some (.bool p.df) ∧ W'.cell? ⟨G, 3, none⟩ = some (.bool false) ∧ W'.cell? ⟨G, 4, none⟩ = some (.int .i64 p.off) ∧ W'.cell? ⟨G, 5, none⟩ = some (.int .u8 p.ttl) ∧ W'.cell? ⟨G, 6, none⟩ = some (.int .u8 p.proto) ∧ W'.cell? ⟨G, 7, none⟩ = some (.int .u32 p.src) ∧ W'.cell? ⟨G, 8, none⟩ = some (.int .u32 p.dst) ∧ W'.cell? ⟨G, 9, none⟩ = some (.slice (some ⟨g5, 0, none⟩) p.few.b.length c5) := by
              have a := IpAt.cells (p := p.few) (bv := .slice (some ⟨g5, 0, none⟩) p.few.b.length c5) ((hW.block G (Nat.lt_of_lt_of_le (Array.getElem?_eq_some_iff.1 MGr.out).1 B8.out.size)).trans ((B8.out.block G (Array.getElem?_eq_some_iff.1 MGr.out).1).trans MGr.out))
              have em : p.few.mf = false := HPM.out
              rw [em] at a
              exact a
            have b := IpAt.cells (p := ⟨p.tos, p.id, p.df, dv, p.off + (pos i : Int), p.ttl, p.proto, p.src, p.dst, x.p.b⟩) (bv := .slice x.B x.p.b.length x.c) ((hW.block G12 (Array.getElem?_eq_some_iff.1 M8.out).1).trans M8.out)
            obtain ⟨a0, a1, a2, a3, a4, a5, a6, a7, a8, a9⟩ := a
            obtain ⟨b0, b1, b2, b3, b4, b5, b6, b7, b8, b9⟩ := b
            exact ⟨b0, b1, b2, b3, b4, b5, b6, b7, b8, b9, a0, a1, a2, a3, a4, a5, a6, a7, a8, a9⟩)
        obtain ⟨d0, d1, d2, d3, d4, d5', d6, d7, d8, d9, f0, f1, f2, f3, f4, f5, f6, f7, f8, f9⟩ := KS.out w8 (Below.refl _ _)
        go_wp2_with (go_at_call 21; (with_reducible refine (XRt.out w8).mono ?_); rintro e wm ⟨rfl, hB⟩; (obtain ⟨b0, b1, b2, b3, b4, b5, b6, b7, b8, b9, a0, a1, a2, a3, a4, a5, a6, a7, a8, a9⟩ := KS.out _ hB); (have cv : (convert 25 9 (.slice x.B x.p.b.length x.c)).run Tryd.prog wm = .ok (.string (txt x.p.b)) wm := convert_rd ((HI.out.rd.below B8.out).below hB)); (have HQ := Lib.hid hB); clear hB)
        exact ⟨⟨i + 1, by rw [HN.out]; simp [Int.add_assoc], by rw [txt_append, HTK.out], by simp, by omega, below_to (below_to HB.out B8.out HB.out.size) HQ.out (Nat.le_trans HB.out.size B8.out.size)⟩, by simp [intOf]; omega⟩
      · have q1 : decide ((i : Int) < (l.length : Int)) = false := decide_eq_false (by omega)
        obtain rfl : i = l.length := by omega
        have e : p.few.b.take (pos l.length) = p.few.b := by
          have h := HP.out.stop
          rw [HLL.out] at h
          rw [h, List.take_length]
        rw [e]
        have qz : decide (0 < (l.length : Int)) = true := decide_eq_true (by omega)
        have k9 : wr.cell? ⟨G, 9, none⟩ = some (.slice (some ⟨g5, 0, none⟩) p.few.b.length c5) := (IpAt.cells (p := p.few) (bv := .slice (some ⟨g5, 0, none⟩) p.few.b.length c5) MGr.out).2.2.2.2.2.2.2.2.2
        have cv : (convert 25 9 (.slice (some ⟨g5, 0, none⟩) p.few.b.length c5)).run Tryd.prog wr = .ok (.string (txt p.few.b)) wr := convert_rd (R5.out.below HB.out)
        go_wp2_with fail
        go_ret
        exact ⟨rfl, below_to Bw5.out HB.out Bw5.out.size⟩
  · have hlm := L5.out
    rw [if_neg hne] at hlm
    obtain rfl : l = [] := List.map_eq_nil_iff.1 hlm
    have XRt : Hid (∀ W, Calls Tryd.prog 21 #[.agg #[.int .u8 p.tos, .int .u16 p.id, .bool p.df, .bool p.mf, .int .i64 p.off, .int .u8 p.ttl, .int .u8 p.proto, .int .u32 p.src, .int .u32 p.dst, .slice (some ⟨g5, 0, none⟩) p.few.b.length c5]] W (RightTold p.few W)) := Lib.hid (fun W => right_any p.few (some ⟨g5, 0, none⟩) c5 W (by omega))
    unfold splitC at hne
    clear hch hlm E5 L5 P5 hl1
    by_cases h68 : mtu < 68
    · have q68 : decide (mtu < 68) = true := decide_eq_true h68
      clear hne
      go_wp2_with fail
      go_ret
      exact ⟨rfl, Bw5.out⟩
    · have q68 : decide (mtu < 68) = false := decide_eq_false h68
      rw [if_neg h68] at hne
      by_cases hb : p.few.bad = 0
      · rw [if_neg (by simp [hb])] at hne
        have hbig : p.df = true ∧ mtu < 20 + (p.few.b.length : Int) := by
          split at hne
          · exact absurd rfl hne
          · rename_i h1 
            split at hne
            · rename_i h2
              exact ⟨h2, by omega⟩
            · exact absurd rfl hne
        have qd := hbig.1
        rw [qd] at c2
        have qb : decide (mtu < 20 + (p.few.b.length : Int)) = true := decide_eq_true hbig.2
        have XRk : Hid (Calls Tryd.prog 21 #[.agg #[.int .u8 p.tos, .int .u16 p.id, .bool true, .bool p.mf, .int .i64 p.off, .int .u8 p.ttl, .int .u8 p.proto, .int .u32 p.src, .int .u32 p.dst, .slice (some ⟨g5, 0, none⟩) p.few.b.length c5]] w5 (RightTold p.few w5)) := Lib.hid (qd ▸ XRt.out w5)
        have KS : Hid (∀ W', Below w5.heap.size w5 W' → W'.cell? ⟨G, 2, none⟩ = some (.bool true) ∧ W'.cell? ⟨G, 9, none⟩ = some (.slice (some ⟨g5, 0, none⟩) p.few.b.length c5)) := Lib.hid (fun W' hW => ⟨(hW.cell (World.block_lt_of_cell? w5 _ c2)).trans c2, (hW.cell (World.block_lt_of_cell? w5 _ c9)).trans c9⟩)
        clear hne hbig
        go_wp2_with (go_at_call 21; (with_reducible refine XRk.out.mono ?_); rintro e w7 ht; (obtain ⟨rfl, hB7⟩ := ht.good hb); (obtain ⟨k2, k9⟩ := KS.out _ hB7); (have Bw7 := Lib.hid (below_to Bw5.out hB7 Bw5.out.size)); clear hB7 c0 c1 c2 c3 c4 c5' c6 c7 c8 c9)
        go_ret
        exact ⟨rfl, Bw7.out⟩
      · have Hb := Lib.hid hb
        clear hne
        go_wp2_with (go_at_call 21; (with_reducible refine (XRt.out w5).mono ?_); rintro e w7 ht; (obtain ⟨b7, rfl, _, hB7⟩ := ht.bad Hb.out); (have Bw7 := Lib.hid (below_to Bw5.out hB7 Bw5.out.size)); clear hB7)
        go_ret
        exact ⟨rfl, Bw7.out⟩
end Go.Proofs.YtfaimdopaocpkaaDoor
namespace Go.Proofs.YtfaimdopaocpkaaDoor
open Go Go.ChangeShapes Go.WideShapes Go.RowKit

/-- The contract. -/
def FragFitsDoes : Prop := ∀ (p0 : Ip) (A0 : Option Addr) (c0 : Nat) (n1 : Int) (w : World), Hdl w → p0.Fit → Rd w (.slice A0 p0.b.length c0) p0.b → c0 ≤ 9223372036854775807 → -9223372036854775808 ≤ n1 → n1 ≤ 9223372036854775807 → Calls Tryd.prog 5 #[p0.val (.slice A0 p0.b.length c0), .int .i64 n1] w fun e w' => e = .returned (.bool true) ∧ Below w.heap.size w w'

set_option maxRecDepth 100000 in
theorem fragFits_lifted (hc : FragFitsDoes) (os : Os) (started : os.Started) (H : Type) (enc : TypeId × Value → H) :
    ReturnsInHanded {} Tryd.checked os 5 .any (fun w args => (Rows.fragFitsSpec.pre enc Tryd.prog Tryd.f5 [] false w args ∧ laidMetH Tryd.prog laidList w) ∧ sizedMet enc Tryd.prog Tryd.f5 (OpenSpec.ofChange Rows.fragFitsSpec) false w args)
      (Rows.fragFitsSpec.post enc Tryd.prog Tryd.f5 false true false false) := by
  refine returnsInHanded_of_change_and (C := Tryd.checked) (X := fun w _ => laidMetH Tryd.prog laidList w) (fun _ _ _ hh h => h.of_heap hh) ownGodebug started (by kernel_rfl) Tryd.func5
    (ChangeSpec.witness_at (enc := enc) (C := Tryd.checked) (os := os) (X := fun w _ => laidMetH Tryd.prog laidList w) false (laidWorld os) #[.agg #[.int .u8 0, .int .u16 0, .bool false, .bool false, .int .i64 0, .int .u8 0, .int .u8 0, .int .u32 0, .int .u32 0, .slice none 0 0], .int .i64 0] 8 rfl (by kernel_rfl) (by kernel_rfl) (by kernel_rfl) (by kernel_rfl) (by kernel_rfl) (laidWorld_met os _)) ?_
  intro W base args ds gs before hval0 hW _ _ hL _
  have hval : ∀ (j : Nat) t v, Tryd.f5.params[j]? = some t → args[j]? = some v → Value.okWide Tryd.prog W .any base t v := hval0
  have hW' := hW
  obtain ⟨p, q, hA0, hV0, rfl, hfz, hnd⟩ := hW
  have hA : DataW.TrodAll enc Tryd.prog W 0 (fun _ => true) true Tryd.f5.params.toList args.toList ds p := hA0
  have hV : DataW.TrodVars enc Tryd.prog W (fun _ => true) [] gs q := hV0
  rw [Tryd.params5] at hA hval
  obtain ⟨v0, vs0, d0, ds0, p0, q0, hargs, rfl, rfl, h0, r0⟩ := trodAll_cons hA
  obtain ⟨v1, vs1, d1, ds1, p1, q1, rfl, rfl, rfl, h1, r1⟩ := trodAll_cons r0
  obtain ⟨rfl, rfl, rfl⟩ := trodAll_nil r1
  obtain rfl : args = #[v0, v1] := by cases args; simpa using hargs
  obtain ⟨rfl, rfl⟩ := trodVars_none hV
  obtain ⟨p0, A0, c0, rfl, b0, e0, a0⟩ := open_ip (hval 0 27 v0 rfl rfl) h0
  obtain ⟨n1, rfl, rfl, rfl, w1⟩ := open_int Tryd.underlying3 (hval 1 3 v1 rfl rfl) h1
  refine (hc p0 A0 c0 n1 W (hdl_of_laid hL) a0 e0 b0 (i64_wf w1).1 (i64_wf w1).2).mono fun e W' ⟨he, hb⟩ => ?_
  subst he
  exact ⟨_, rfl, law_post rfl rfl rfl (by rw [Tryd.params5]; intro t ht; simp at ht; (try rcases ht with rfl | rfl) <;> (try subst ht) <;> exact ⟨by kernel_rfl, by rw [typesSize]; decide⟩) hW' hb⟩
theorem fragFits_row (hc : FragFitsDoes) : Rows.FragFitsSaid :=
  OpenClaim.holds_of_wide 5 Tryd.f5 rfl rfl rfl rfl rfl rfl rfl ⟨rfl, rfl, rfl, rfl, rfl⟩ rfl rfl rfl rfl rfl (by kernel_rfl) Tryd.func5 (by kernel_rfl)
    (of_decide_eq_true (by kernel_rfl)) (by unfold Func.isWrapper; rw [if_neg (of_decide_eq_false (by kernel_rfl))]; exact ⟨rfl, rfl⟩)
    (fun os started H enc _ => fragFits_lifted hc os started H enc)
theorem fragFits_card (hrow : Rows.FragFitsSaid) : Rows.FragFitsCardSaid :=
  Claim7.holds_tied_plain_at .later [] [.handle] true _ true
    hrow (fun _ h => by cases h) (by kernel_rfl) (fun _ h => by cases h) fragFits_row_tie rfl ⟨rfl, rfl⟩ (by kernel_rfl) rfl
    (fun f fn hf hfn => by
      obtain rfl : f = 5 := Option.some.inj ((show Tryd.prog.funcNamed "underpass/underpasslaw10.FragFits" = some 5 by kernel_rfl).symm.trans hf) |>.symm
      obtain rfl : fn = Tryd.f5 := (Option.some.inj (Tryd.func5.symm.trans hfn)).symm
      exact ⟨by kernel_rfl, fun j t ht => by
        rw [Tryd.params5] at ht
        rcases j with _ | _ | j
        · have h3 : t = 27 := by simpa using ht.symm
          subst h3
          exact (show Tryd.prog.wantsStandIn 27 = false by kernel_rfl)
        · have h3 : t = 3 := by simpa using ht.symm
          subst h3
          exact (show Tryd.prog.wantsStandIn 3 = false by kernel_rfl)
        · simp at ht⟩)
    (by kernel_rfl)
end Go.Proofs.YtfaimdopaocpkaaDoor
namespace Go.Proofs.YtfaimdopaocpkaaDoor
theorem fragFits_any : FragFitsDoes := fun p A c m w hg hf hr hc h1 h2 => fragFits_of split_ok fshown_any p A c m w hg hf hc hr h1 h2
theorem fragFits_holds : Rows.FragFitsCardSaid := fragFits_card (fragFits_row fragFits_any)
end Go.Proofs.YtfaimdopaocpkaaDoor
