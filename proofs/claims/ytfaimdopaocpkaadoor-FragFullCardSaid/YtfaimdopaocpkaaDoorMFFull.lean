/-
  What is proved: FragFull by contract, out of those of package frag: the law returns true, and older memory is as it was.
  Conditions: those of the arguments; package frag's contracts, and that of 'shown', handed in.
  What is proved: the row and the tied card of FragFull out of its function's contract.
  Conditions: the contract, handed in; the listed package-level variables start as the program's text lays them (the card ties them).
  What is proved: FragFull: for any packet the ninth identification is refused while eight are waiting; the law returns true and leaves its arguments as they were (the tied card).
  Conditions: the listed package-level variables start as the program's text lays them (the card ties them).
-/
import Derived.Test.YtfaimdopaocpkaaDoorMFg
import Derived.Deep.DeepCutAuto
import Derived.Deep.CutBlock
import Derived.Test.YtfaimdopaocpkaaDoorVLift
import Derived.Test.YtfaimdopaocpkaaDoorCards
import Derived.Test.YtfaimdopaocpkaaDoorTie
import Derived.SevenTiedAt
import Derived.Test.YtfaimdopaocpkaaDoorMFs
namespace Go.Proofs.YtfaimdopaocpkaaDoor
open Go.RowKit

set_option maxRecDepth 100000 in
set_option maxHeartbeats 8000000 in
theorem fragFull_of {R : World → Nat → (Nat → Prop) → Int → List Hp → Prop} (X : FgOk R) (X0 : ∀ W, W.cell? ⟨0, 0, none⟩ = some (.iface 105 (.agg #[.pointer (some ⟨4, 35, none⟩)])) → Calls Tryd.prog 12 #[] W fun e w' => e = .returned (.bool true) ∧ Below W.heap.size W w')
    (p : Ip) (A : Option Addr) (c : Nat) (w : World) (hg : w.cell? ⟨0, 0, none⟩ = some (.iface 105 (.agg #[.pointer (some ⟨4, 35, none⟩)]))) (hfit : p.Fit) (hc : c ≤ 9223372036854775807) (hr : Rd w (.slice A p.b.length c) p.b) :
    Calls Tryd.prog 10 #[.agg #[.int .u8 p.tos, .int .u16 p.id, .bool p.df, .bool p.mf, .int .i64 p.off, .int .u8 p.ttl, .int .u8 p.proto, .int .u32 p.src, .int .u32 p.dst, .slice A p.b.length c]] w fun e w' => e = .returned (.bool true) ∧ Below w.heap.size w w' := by
  have Hfit := Lib.hid hfit
  have XX := Lib.hid X
  have HGG := Lib.hid hg
  have hB0 : Below w.heap.size w (w.alloc (.cells #[.int .u8 p.tos, .int .u16 p.id, .bool p.df, .bool p.mf, .int .i64 p.off, .int .u8 p.ttl, .int .u8 p.proto, .int .u32 p.src, .int .u32 p.dst, .slice A p.b.length c] 27)) := (Below.refl _ w).alloc (Nat.le_refl _) _
  have X0 := Lib.hid (X0 _ ((hB0.cell (World.block_lt_of_cell? w _ hg)).trans hg))
  have M0 := Lib.hid (heap_alloc_new w (.cells #[.int .u8 p.tos, .int .u16 p.id, .bool p.df, .bool p.mf, .int .i64 p.off, .int .u8 p.ttl, .int .u8 p.proto, .int .u32 p.src, .int .u32 p.dst, .slice A p.b.length c] 27))
  have B0 := Lib.hid hB0
  have R0 := Lib.hid (hr.below hB0)
  have hfl : p.few.b.length ≤ 2000 := p.plain_len
  clear X hfit hg hB0 hr
  go_enter Tryd.func10, Tryd.ntmps10
  go_upto_region 1 with fail
  generalize w.alloc (.cells #[.int .u8 p.tos, .int .u16 p.id, .bool p.df, .bool p.mf, .int .i64 p.off, .int .u8 p.ttl, .int .u8 p.proto, .int .u32 p.src, .int .u32 p.dst, .slice A p.b.length c] 27) = w0 at X0 M0 B0 R0 ⊢
  obtain ⟨G, hG⟩ : ∃ G, w.heap.size = G := ⟨_, rfl⟩
  have HGe := Lib.hid hG
  rw [hG] at M0 B0 ⊢
  clear hG
  go_upto_region 2 with (go_at_call 12; (with_reducible refine X0.out.mono ?_); rintro e w1 ⟨rfl, hB⟩; (have B1 := Lib.hid hB); clear hB)
  have M1 := Lib.hid ((B1.out.block G (Array.getElem?_eq_some_iff.1 M0.out).1).trans M0.out)
  have R1 := Lib.hid (R0.out.below B1.out)
  have Bw1 := Lib.hid (below_to B0.out B1.out (by have := B0.out.size; have := (Array.getElem?_eq_some_iff.1 M0.out).1; omega))
  clear X0 M0 B0 R0 B1
  have XF := Lib.hid (few2_any p A c w1 R1.out hc)
  unfold FewTold Ip.val Ip.row at XF
  obtain ⟨c0, c1, c2, c3, c4, c5', c6, c7, c8, c9⟩ := IpAt.cells (p := p) (bv := .slice A p.b.length c) M1.out
  go_upto_region 3 with (first
    | (go_at_call 13; (with_reducible refine XF.out.mono ?_); rintro e w2 ⟨g5, c5, rfl, hr5, hg5, hB5, hcc5⟩; (have M2 := Lib.hid ((hB5.block G (Array.getElem?_eq_some_iff.1 M1.out).1).trans M1.out)); (have B2 := Lib.hid hB5); (have R2 := Lib.hid hr5); (have HC5 := Lib.hid hcc5); (have NG : Hid (g5 ≠ G) := Lib.hid (by have := (Array.getElem?_eq_some_iff.1 M1.out).1; omega)); clear hr5 hg5 hB5 hcc5)
    | (refine wpList_store_row rfl 27 (.tmp 1) (.tmp 20) rfl G #[.int .u8 p.tos, .int .u16 p.id, .bool p.df, .bool p.mf, .int .i64 p.off, .int .u8 p.ttl, .int .u8 p.proto, .int .u32 p.src, .int .u32 p.dst, .slice (some ⟨g5, 0, none⟩) p.few.b.length c5] rfl rfl 27 _ M2.out ipSize rfl (by simp [Value.oneCell']) ?_))
  have M3 := Lib.hid (setRow_heap _ _ _ #[.int .u8 p.tos, .int .u16 p.id, .bool p.df, .bool p.mf, .int .i64 p.off, .int .u8 p.ttl, .int .u8 p.proto, .int .u32 p.src, .int .u32 p.dst, .slice (some ⟨g5, 0, none⟩) p.few.b.length c5] _ _ M2.out)
  have R3 := Lib.hid (rd_row R2.out NG.out #[.int .u8 p.tos, .int .u16 p.id, .bool p.df, .bool p.mf, .int .i64 p.off, .int .u8 p.ttl, .int .u8 p.proto, .int .u32 p.src, .int .u32 p.dst, .slice (some ⟨g5, 0, none⟩) p.few.b.length c5])
  have Bw3 := Lib.hid (below_setRow (below_to Bw1.out B2.out (by have := Bw1.out.size; have := (Array.getElem?_eq_some_iff.1 M1.out).1; omega)) (Nat.le_refl G) #[.int .u8 p.tos, .int .u16 p.id, .bool p.df, .bool p.mf, .int .i64 p.off, .int .u8 p.ttl, .int .u8 p.proto, .int .u32 p.src, .int .u32 p.dst, .slice (some ⟨g5, 0, none⟩) p.few.b.length c5])
  generalize w2.setRow G #[.int .u8 p.tos, .int .u16 p.id, .bool p.df, .bool p.mf, .int .i64 p.off, .int .u8 p.ttl, .int .u8 p.proto, .int .u32 p.src, .int .u32 p.dst, .slice (some ⟨g5, 0, none⟩) p.few.b.length c5] = w3 at M3 R3 Bw3 ⊢
  clear c0 c1 c2 c3 c4 c5' c6 c7 c8 c9 XF R1 R2 B2 M1 M2 Bw1
  have MM4 : Hid (((w3.setCell ⟨G, 4, none⟩ (.int .i64 0)).setCell ⟨G, 3, none⟩ (.bool false)).heap[G]? = some (.cells #[.int .u8 p.tos, .int .u16 p.id, .bool p.df, .bool false, .int .i64 0, .int .u8 p.ttl, .int .u8 p.proto, .int .u32 p.src, .int .u32 p.dst, .slice (some ⟨g5, 0, none⟩) p.few.b.length c5] 27)) := Lib.hid (by
    have h := M3.out
    unfold World.setCell
    simp only [Array.getElem?_modify, if_true, h, Option.map_some]
    rfl)
  have Bw4 := Lib.hid ((Bw3.out.setCell (p := ⟨G, 4, none⟩) (Nat.le_refl _) (.int .i64 0)).setCell (p := ⟨G, 3, none⟩) (Nat.le_refl _) (.bool false))
  have R4 := Lib.hid (rd_set (rd_set R3.out NG.out 4 (.int .i64 0)) NG.out 3 (.bool false))
  have hf4 : w3.frozen? ⟨G, 4, none⟩ = false := by simp [World.frozen?, M3.out]
  have hf3 : w3.frozen? ⟨G, 3, none⟩ = false := by simp [World.frozen?, M3.out]
  have hc4 : w3.cell? ⟨G, 4, none⟩ = some (.int .i64 p.off) := by simp [World.cell?, M3.out]
  have hc3 : w3.cell? ⟨G, 3, none⟩ = some (.bool p.mf) := by simp [World.cell?, M3.out]
  go_upto_region 5 with fail
  generalize (w3.setCell ⟨G, 4, none⟩ (.int .i64 0)).setCell ⟨G, 3, none⟩ (.bool false) = w4 at MM4 Bw4 R4 ⊢
  clear hf3 hf4 hc3 hc4 M3 Bw3 R3

  have Bw5 := Lib.hid (HGe.out ▸ Bw4.out : Below w.heap.size w w4)
  have XN := Lib.hid (Fx.new XX.out (Below.refl w4.heap.size w4) (tm := 9) (by unfold UW; omega))
  clear Bw4
  go_upto_region 6 with (go_at_call 18; (with_reducible refine XN.out.mono ?_); rintro e w6 ⟨r, rfl, hF⟩; (have F6 := Lib.hid hF); clear hF)
  go_wp2_with fail
  go_loopw [5] (fun s5 wr => ∃ (i : Nat) (S : List Hp) (n : Nat), s5 = .int .i64 (i : Int) ∧ i ≤ 10 ∧ Fx R w4 (fun _ => False) wr r 9 S ∧ EightIs S n ∧ n = min i 8) (fun s5 _ => 10 - (intOf s5).toNat)
  case atStart => exact ⟨0, [], 0, rfl, Nat.zero_le _, F6.out, eight_nil, rfl⟩
  case round =>
    obtain ⟨i, S, n, rfl, hi, hF, hH, hn⟩ := hrel
    have HF := Lib.hid hF
    have HH := Lib.hid (And.intro hH hn)
    clear hF hH hn F6
    by_cases hlt : i < 10
    · have q1 : decide ((i : Int) < 10) = true := decide_eq_true (by omega)
      have qc : IntKind.u16.wrap (i : Int) = (i : Int) := by rw [IntKind.wrap_u16]; omega
      obtain ⟨z, hz⟩ : ∃ z, List.replicate 8 (0 : UInt8) = z := ⟨_, rfl⟩
      have hmk : (Instr.makeSlice 25 (.int .i64 8) (.int .i64 8)).run Tryd.prog wr = .ok (.slice (some ⟨wr.heap.size, 0, none⟩) 8 8) (wr.alloc (bytesObj z)) := hz ▸ make_bytes 8 (by decide) wr
      have XT : Hid (Calls Tryd.prog 19 #[.pointer (some ⟨r, 0, none⟩), .agg #[.int .u8 0, .int .u16 (i : Int), .bool false, .bool true, .int .i64 0, .int .u8 0, .int .u8 0, .int .u32 0, .int .u32 0, .slice (some ⟨wr.heap.size, 0, none⟩) 8 8], .int .u64 1] (wr.alloc (bytesObj z)) fun e w' =>
          ∃ S' o n b, TakeR S (eightP i) 1 S' o n b ∧ TakeVal o n b e w' ∧ Fx R w4 (fun _ => False) w' r 9 S' ∧ ∀ k, False → w'.heap[k]? = (wr.alloc (bytesObj z)).heap[k]?) :=
        Lib.hid (HF.out.takeN XX.out (below_al (Below.refl _ _) _) (p := eightP i) (now := 1) (c := 8) (eight_in (by omega)) (by show z8.length ≤ _; decide) (by unfold UW; omega) (by decide) (show Rd _ (.slice _ z8.length 8) z8 from (show z8 = z from hz) ▸ Rd.of_obj (bytesObj_new wr z8) (by show z8.length ≤ 8; decide)) (fun _ a ha => by cases ha; exact Nat.le_refl _))
      by_cases hi8 : i < 8
      · have q8 : decide ((i : Int) < 8) = true := decide_eq_true (by omega)
        go_upto_region 12 with (first
          | (go_at_call 19; (with_reducible refine XT.out.mono ?_); rintro e w7 ⟨S7, o7, n7, b7, hTR, hV, hF7, _⟩; (obtain ⟨rfl, rfl, hn7, hS7⟩ := eight_step HH.out.1 HH.out.2 hTR); (rw [if_pos hi8] at hn7; subst hn7); (obtain ⟨B6, d6, ev7, rfl, _, hE7⟩ := hV); (obtain rfl : ev7 = .nilIface := by (rcases hE7 with ⟨_, h⟩ | ⟨h, _⟩; exact h; exact absurd rfl h)); (have F7 := Lib.hid hF7); (have H7 := Lib.hid hS7); clear hTR hF7 hS7 hE7)
          | (refine wpList_store_row rfl 27 (.tmp 6) (.tmp 37) rfl w7.heap.size #[.int .u8 noIp.tos, .int .u16 noIp.id, .bool noIp.df, .bool noIp.mf, .int .i64 noIp.off, .int .u8 noIp.ttl, .int .u8 noIp.proto, .int .u32 noIp.src, .int .u32 noIp.dst, .slice B6 noIp.b.length d6] rfl rfl 27 _ (heap_alloc_new w7 _) ipSize rfl (by simp [Value.oneCell']) ?_; rw [setRow_alloc]))
        clear XT hmk
        have B8 := Lib.hid ((Below.refl w7.heap.size w7).alloc (Nat.le_refl _) (.cells #[.int .u8 noIp.tos, .int .u16 noIp.id, .bool noIp.df, .bool noIp.mf, .int .i64 noIp.off, .int .u8 noIp.ttl, .int .u8 noIp.proto, .int .u32 noIp.src, .int .u32 noIp.dst, .slice B6 noIp.b.length d6] 27))
        generalize w7.alloc (.cells #[.int .u8 noIp.tos, .int .u16 noIp.id, .bool noIp.df, .bool noIp.mf, .int .i64 noIp.off, .int .u8 noIp.ttl, .int .u8 noIp.proto, .int .u32 noIp.src, .int .u32 noIp.dst, .slice B6 noIp.b.length d6] 27) = w8 at B8 ⊢
        go_wp2_with fail
        exact ⟨⟨i + 1, S7, _, by simp, by omega, F7.out.to XX.out B8.out, H7.out, rfl⟩, by simp [intOf]; omega⟩
      · have q8 : decide ((i : Int) < 8) = false := decide_eq_false (by omega)
        go_upto_region 12 with (first
          | (go_at_call 19; (with_reducible refine XT.out.mono ?_); rintro e w7 ⟨S7, o7, n7, b7, hTR, hV, hF7, _⟩; (obtain ⟨rfl, rfl, hn7, hS7⟩ := eight_step HH.out.1 HH.out.2 hTR); (rw [if_neg hi8] at hn7; subst hn7); (obtain ⟨B6, d6, ev7, rfl, _, hE7⟩ := hV); (obtain ⟨y7, rfl, hch⟩ : ∃ x : Nat, ev7 = .iface 86 (.pointer (some ⟨x, 0, none⟩)) ∧ Chain w7 (5 : Nat) [fragWord] ev7 := by (rcases hE7 with ⟨h, _⟩ | ⟨_, h⟩; cases h; exact h)); (have CH7 := Lib.hid hch); (have F7 := Lib.hid hF7); (have H7 := Lib.hid hS7); clear hTR hF7 hS7 hE7)
          | (refine wpList_store_row rfl 27 (.tmp 6) (.tmp 37) rfl w7.heap.size #[.int .u8 noIp.tos, .int .u16 noIp.id, .bool noIp.df, .bool noIp.mf, .int .i64 noIp.off, .int .u8 noIp.ttl, .int .u8 noIp.proto, .int .u32 noIp.src, .int .u32 noIp.dst, .slice B6 noIp.b.length d6] rfl rfl 27 _ (heap_alloc_new w7 _) ipSize rfl (by simp [Value.oneCell']) ?_; rw [setRow_alloc]))
        clear XT hmk
        have B8 := Lib.hid ((Below.refl w7.heap.size w7).alloc (Nat.le_refl _) (.cells #[.int .u8 noIp.tos, .int .u16 noIp.id, .bool noIp.df, .bool noIp.mf, .int .i64 noIp.off, .int .u8 noIp.ttl, .int .u8 noIp.proto, .int .u32 noIp.src, .int .u32 noIp.dst, .slice B6 noIp.b.length d6] 27))
        generalize w7.alloc (.cells #[.int .u8 noIp.tos, .int .u16 noIp.id, .bool noIp.df, .bool noIp.mf, .int .i64 noIp.off, .int .u8 noIp.ttl, .int .u8 noIp.proto, .int .u32 noIp.src, .int .u32 noIp.dst, .slice B6 noIp.b.length d6] 27) = w8 at B8 ⊢
        have F8 := Lib.hid (F7.out.to XX.out B8.out)
        have hbw := below_to Bw5.out F8.out.base Bw5.out.size
        have XC := Lib.hid (code_any _ _ _ w8 ((hbw.cell (World.block_lt_of_cell? w _ HGG.out)).trans HGG.out) (CH7.out.below B8.out))
        clear hbw
        go_wp2_with (go_at_call 23; (with_reducible refine XC.out.mono ?_); rintro e w9 ⟨rfl, hB9⟩)
        exact ⟨⟨i + 1, S7, _, by simp, by omega, F8.out.to XX.out hB9, H7.out, rfl⟩, by simp [intOf]; omega⟩
    · have q1 : decide ((i : Int) < 10) = false := decide_eq_false (by omega)
      obtain ⟨hE8, hn8⟩ := HH.out
      obtain rfl : n = 8 := by omega
      have E8 := Lib.hid hE8
      clear HH hE8 hn8
      have MG := Lib.hid ((HF.out.base.block G (Array.getElem?_eq_some_iff.1 MM4.out).1).trans MM4.out)
      have RG := Lib.hid (R4.out.below HF.out.base)
      obtain ⟨c0, c1, c2, c3, c4, c5', c6, c7, c8, c9⟩ : wr.cell? ⟨G, 0, none⟩ = some (.int .u8 p.tos) ∧ wr.cell? ⟨G, 1, none⟩ = some (.int .u16 p.id) ∧ wr.cell? ⟨G, 2, none⟩ = some (.bool p.df) ∧ wr.cell? ⟨G, 3, none⟩ = some (.bool false) ∧ wr.cell? ⟨G, 4, none⟩ = some (.int .i64 0) ∧ wr.cell? ⟨G, 5, none⟩ = some (.int .u8 p.ttl) ∧ wr.cell? ⟨G, 6, none⟩ = some (.int .u8 p.proto) ∧ wr.cell? ⟨G, 7, none⟩ = some (.int .u32 p.src) ∧ wr.cell? ⟨G, 8, none⟩ = some (.int .u32 p.dst) ∧ wr.cell? ⟨G, 9, none⟩ = some (.slice (some ⟨g5, 0, none⟩) p.few.b.length c5) := IpAt.cells (p := p.head0) (bv := .slice (some ⟨g5, 0, none⟩) p.few.b.length c5) MG.out
      have XT : Hid (Calls Tryd.prog 19 #[.pointer (some ⟨r, 0, none⟩), .agg #[.int .u8 p.tos, .int .u16 p.id, .bool p.df, .bool false, .int .i64 0, .int .u8 p.ttl, .int .u8 p.proto, .int .u32 p.src, .int .u32 p.dst, .slice (some ⟨g5, 0, none⟩) p.few.b.length c5], .int .u64 1] wr fun e w' =>
          ∃ S' o n b, TakeR S p.head0 1 S' o n b ∧ TakeVal o n b e w' ∧ Fx R w4 (fun _ => False) w' r 9 S' ∧ ∀ k, False → w'.heap[k]? = wr.heap[k]?) :=
        Lib.hid (HF.out.take XX.out (p := p.head0) (now := 1) (c := c5) (Ip.head0_in Hfit.out) hfl (by unfold UW; omega) HC5.out RG.out (fun hb a ha => .inl (rd_old R4.out hb a ha)))
      go_upto_region 15 with (first
        | (go_at_call 19; (with_reducible refine XT.out.mono ?_); rintro e w7 ⟨S7, o7, n7, b7, hTR, hV, hF7, _⟩; (obtain ⟨rfl, rfl, rfl, rfl⟩ := alone_take p.head0_bad ⟨rfl, rfl⟩ hTR); (obtain ⟨B9, d9, ev7, rfl, hR9, hE7⟩ := hV); (obtain rfl : ev7 = .nilIface := by (rcases hE7 with ⟨_, h⟩ | ⟨h, _⟩; exact h; exact absurd rfl h)); (have F7 := Lib.hid hF7); (have R7 : Hid (Rd w7 (.slice B9 p.few.b.length d9) p.few.b) := Lib.hid hR9); clear hTR hF7 hR9 hE7)
        | (refine wpList_store_row rfl 27 (.tmp 9) (.tmp 61) rfl w7.heap.size #[.int .u8 p.tos, .int .u16 p.id, .bool p.df, .bool false, .int .i64 0, .int .u8 p.ttl, .int .u8 p.proto, .int .u32 p.src, .int .u32 p.dst, .slice B9 p.few.b.length d9] rfl rfl 27 _ (heap_alloc_new w7 _) ipSize rfl (by simp [Value.oneCell']) ?_; rw [setRow_alloc]))
      clear c0 c1 c2 c3 c4 c5' c6 c7 c8 c9 XT RG MG
      have hB8 : Below w7.heap.size w7 (w7.alloc (.cells #[.int .u8 p.tos, .int .u16 p.id, .bool p.df, .bool false, .int .i64 0, .int .u8 p.ttl, .int .u8 p.proto, .int .u32 p.src, .int .u32 p.dst, .slice B9 p.few.b.length d9] 27)) := (Below.refl _ w7).alloc (Nat.le_refl _) _
      have F8 := Lib.hid (F7.out.to XX.out hB8)
      have R8 := Lib.hid (R7.out.below hB8)
      have M8 := Lib.hid (heap_alloc_new w7 (.cells #[.int .u8 p.tos, .int .u16 p.id, .bool p.df, .bool false, .int .i64 0, .int .u8 p.ttl, .int .u8 p.proto, .int .u32 p.src, .int .u32 p.dst, .slice B9 p.few.b.length d9] 27))
      clear hB8 F7 R7 HF
      generalize w7.alloc (.cells #[.int .u8 p.tos, .int .u16 p.id, .bool p.df, .bool false, .int .i64 0, .int .u8 p.ttl, .int .u8 p.proto, .int .u32 p.src, .int .u32 p.dst, .slice B9 p.few.b.length d9] 27) = w8 at F8 R8 M8 ⊢
      generalize w7.heap.size = G8 at M8 ⊢
      have MG8 := Lib.hid ((F8.out.base.block G (Array.getElem?_eq_some_iff.1 MM4.out).1).trans MM4.out)
      have RG8 := Lib.hid (R4.out.below F8.out.base)
      have KS : Hid (∀ W', Below w8.heap.size w8 W' → (fun W' => W'.cell? ⟨G8, 0, none⟩ = some (.int .u8 p.tos) ∧ W'.cell? ⟨G8, 1, none⟩ = some (.int .u16 p.id) ∧ W'.cell? ⟨G8, 2, none⟩ = some (.bool p.df) ∧ W'.cell? ⟨G8, 3, none⟩ = some (.bool false) ∧ W'.cell? ⟨G8, 4, none⟩ = some (.int .i64 0) ∧ W'.cell? ⟨G8, 5, none⟩ = some (.int .u8 p.ttl) ∧ W'.cell? ⟨G8, 6, none⟩ = some (.int .u8 p.proto) ∧ W'.cell? ⟨G8, 7, none⟩ = some (.int .u32 p.src) ∧ W'.cell? ⟨G8, 8, none⟩ = some (.int .u32 p.dst) ∧ W'.cell? ⟨G8, 9, none⟩ = some (.slice B9 p.few.b.length d9) ∧ W'.cell? ⟨G, 0, none⟩ = some (.int .u8 p.tos) ∧ W'.cell? ⟨G, 1, none⟩ = some (.int .u16 p.id) ∧ W'.cell? ⟨G, 2, none⟩ = some (.bool p.df) ∧ W'.cell? ⟨G, 3, none⟩ = some (.bool false) ∧ W'.cell? ⟨G, 4, none⟩ = some (.int .i64 0) ∧ W'.cell? ⟨G, 5, none⟩ = some (.int .u8 p.ttl) ∧ W'.cell? ⟨G, 6, none⟩ = some (.int .u8 p.proto) ∧ W'.cell? ⟨G, 7, none⟩ = some (.int .u32 p.src) ∧ W'.cell? ⟨G, 8, none⟩ = some (.int .u32 p.dst) ∧ W'.cell? ⟨G, 9, none⟩ = some (.slice (some ⟨g5, 0, none⟩) p.few.b.length c5)) W') := Lib.hid (fun W' hW => by
          have a := IpAt.cells (p := p.head0) (bv := .slice (some ⟨g5, 0, none⟩) p.few.b.length c5) ((hW.block G (Array.getElem?_eq_some_iff.1 MG8.out).1).trans MG8.out)
          have b := IpAt.cells (p := p.head0) (bv := .slice B9 p.few.b.length d9) ((hW.block G8 (Array.getElem?_eq_some_iff.1 M8.out).1).trans M8.out)
          obtain ⟨a0, a1, a2, a3, a4, a5, a6, a7, a8, a9⟩ := a
          obtain ⟨b0, b1, b2, b3, b4, b5, b6, b7, b8, b9⟩ := b
          exact ⟨b0, b1, b2, b3, b4, b5, b6, b7, b8, b9, a0, a1, a2, a3, a4, a5, a6, a7, a8, a9⟩)
      have XO1 : Hid (∀ W, Below w8.heap.size w8 W → Calls Tryd.prog 14 #[.agg #[.int .u8 p.tos, .int .u16 p.id, .bool p.df, .bool false, .int .i64 0, .int .u8 p.ttl, .int .u8 p.proto, .int .u32 p.src, .int .u32 p.dst, .slice B9 p.few.b.length d9]] W fun e w' => e = .returned (.agg #[.int .u32 p.tos, .int .u32 p.id, .bool p.df, .bool false, .int .i64 0, .int .u32 p.ttl, .int .u32 p.proto, .int .u32 p.src, .int .u32 p.dst, .string (txt p.few.b)]) ∧ Below W.heap.size W w') := Lib.hid (fun W hW => vOf_lit p.head0 (Ip.head0_in Hfit.out) B9 d9 W (R8.out.below hW))
      have XO2 : Hid (∀ W, Below w8.heap.size w8 W → Calls Tryd.prog 14 #[.agg #[.int .u8 p.tos, .int .u16 p.id, .bool p.df, .bool false, .int .i64 0, .int .u8 p.ttl, .int .u8 p.proto, .int .u32 p.src, .int .u32 p.dst, .slice (some ⟨g5, 0, none⟩) p.few.b.length c5]] W fun e w' => e = .returned (.agg #[.int .u32 p.tos, .int .u32 p.id, .bool p.df, .bool false, .int .i64 0, .int .u32 p.ttl, .int .u32 p.proto, .int .u32 p.src, .int .u32 p.dst, .string (txt p.few.b)]) ∧ Below W.heap.size W w') := Lib.hid (fun W hW => vOf_lit p.head0 (Ip.head0_in Hfit.out) (some ⟨g5, 0, none⟩) c5 W (RG8.out.below hW))
      have XL := Lib.hid (fun W (hb : Below w8.heap.size w8 W) => (F8.out.to XX.out hb).len XX.out)
      rw [E8.out.len] at XL
      have heq : ∀ W, (Op.equalIn 10000 31 (.agg #[.int .u32 p.tos, .int .u32 p.id, .bool p.df, .bool false, .int .i64 0, .int .u32 p.ttl, .int .u32 p.proto, .int .u32 p.src, .int .u32 p.dst, .string (txt p.few.b)]) (.agg #[.int .u32 p.tos, .int .u32 p.id, .bool p.df, .bool false, .int .i64 0, .int .u32 p.ttl, .int .u32 p.proto, .int .u32 p.src, .int .u32 p.dst, .string (txt p.few.b)])).run Tryd.prog W = .ok true W := fun W => by
        have h := refIp_eqB p.head0 p.head0 W
        simp only [ipB_same] at h
        exact h
      go_region_held_law (fun W' => W'.cell? ⟨G8, 0, none⟩ = some (.int .u8 p.tos) ∧ W'.cell? ⟨G8, 1, none⟩ = some (.int .u16 p.id) ∧ W'.cell? ⟨G8, 2, none⟩ = some (.bool p.df) ∧ W'.cell? ⟨G8, 3, none⟩ = some (.bool false) ∧ W'.cell? ⟨G8, 4, none⟩ = some (.int .i64 0) ∧ W'.cell? ⟨G8, 5, none⟩ = some (.int .u8 p.ttl) ∧ W'.cell? ⟨G8, 6, none⟩ = some (.int .u8 p.proto) ∧ W'.cell? ⟨G8, 7, none⟩ = some (.int .u32 p.src) ∧ W'.cell? ⟨G8, 8, none⟩ = some (.int .u32 p.dst) ∧ W'.cell? ⟨G8, 9, none⟩ = some (.slice B9 p.few.b.length d9) ∧ W'.cell? ⟨G, 0, none⟩ = some (.int .u8 p.tos) ∧ W'.cell? ⟨G, 1, none⟩ = some (.int .u16 p.id) ∧ W'.cell? ⟨G, 2, none⟩ = some (.bool p.df) ∧ W'.cell? ⟨G, 3, none⟩ = some (.bool false) ∧ W'.cell? ⟨G, 4, none⟩ = some (.int .i64 0) ∧ W'.cell? ⟨G, 5, none⟩ = some (.int .u8 p.ttl) ∧ W'.cell? ⟨G, 6, none⟩ = some (.int .u8 p.proto) ∧ W'.cell? ⟨G, 7, none⟩ = some (.int .u32 p.src) ∧ W'.cell? ⟨G, 8, none⟩ = some (.int .u32 p.dst) ∧ W'.cell? ⟨G, 9, none⟩ = some (.slice (some ⟨g5, 0, none⟩) p.few.b.length c5))
        (first | exact KS.out _ (below_drewF w8) | exact KS.out _ HQ.out)
        (first
          | (go_at_call 14; (with_reducible refine (XO1.out _ HQ.out).mono ?_); rintro e wm ⟨rfl, hB⟩; (have HQ := Lib.hid (below_to HQ.out hB HQ.out.size)); clear hB)
          | (go_at_call 14; (with_reducible refine (XO2.out _ HQ.out).mono ?_); rintro e wm ⟨rfl, hB⟩; (have HQ := Lib.hid (below_to HQ.out hB HQ.out.size)); clear hB)
          | (go_at_call 14; (with_reducible refine (XO1.out _ (below_drewF w8)).mono ?_); rintro e wm ⟨rfl, hB⟩; (have HQ := Lib.hid (below_to (below_drewF w8) hB (below_drewF w8).size)); clear hB)
          | (go_at_call 14; (with_reducible refine (XO2.out _ (below_drewF w8)).mono ?_); rintro e wm ⟨rfl, hB⟩; (have HQ := Lib.hid (below_to (below_drewF w8) hB (below_drewF w8).size)); clear hB)
          | (go_at_call 20; (with_reducible refine (XL.out _ HQ.out).mono ?_); rintro e wm ⟨rfl, hw⟩; subst wm))
      all_goals
        clear KS XO1 XO2 XL heq
        have F9 := Lib.hid (F8.out.to XX.out HQ.out)
        clear HQ M8 MG8 RG8 R8 F8
        go_upto_region 17 with fail
        have hBE := below_al (Below.refl wm.heap.size wm) (.cells #[.int .u8 101, .int .u8 110, .int .u8 100] 5 (3, 4))
        have cvs : (convert 25 25 (.slice (some ⟨wm.heap.size, 0, none⟩) 3 3)).run Tryd.prog (wm.alloc (.cells #[.int .u8 101, .int .u8 110, .int .u8 100] 5)) = .ok (.slice (some ⟨wm.heap.size, 0, none⟩) 3 3) (wm.alloc (.cells #[.int .u8 101, .int .u8 110, .int .u8 100] 5 (3, 4))) := Go.Lib.run_convert_bytes_const wm 25 5 _ 3 3 Tryd.underlying25 Tryd.underlying5
        have XT3 : Hid (Calls Tryd.prog 19 #[.pointer (some ⟨r, 0, none⟩), .agg #[.int .u8 0, .int .u16 3, .bool false, .bool false, .int .i64 8, .int .u8 0, .int .u8 0, .int .u32 0, .int .u32 0, .slice (some ⟨wm.heap.size, 0, none⟩) 3 3], .int .u64 1] (wm.alloc (.cells #[.int .u8 101, .int .u8 110, .int .u8 100] 5 (3, 4))) fun e w' =>
            ∃ S' o n b K', TakeR S7 endP 1 S' o n b ∧ TakeVal o n b e w' ∧ Fx R w4 K' w' r 9 S' ∧ (∀ k, (False ∨ (wm.heap.size ≤ k ∧ k < (wm.alloc (.cells #[.int .u8 101, .int .u8 110, .int .u8 100] 5 (3, 4))).heap.size)) → K' k) ∧ (∀ k, (False ∨ (wm.heap.size ≤ k ∧ k < (wm.alloc (.cells #[.int .u8 101, .int .u8 110, .int .u8 100] 5 (3, 4))).heap.size)) → w'.heap[k]? = (wm.alloc (.cells #[.int .u8 101, .int .u8 110, .int .u8 100] 5 (3, 4))).heap[k]?) ∧
              ∀ (row : Array Value) (ok ev : Value) (x : Addr) (n c : Nat), e = .returned (.tuple #[.agg row, ok, ev]) → row[9]? = some (.slice (some x) n c) → x.block < w4.heap.size ∨ K' x.block) :=
          Lib.hid ((F9.out.add XX.out hBE).takeA XX.out (p := endP) (now := 1) (c := 3) end_in (by decide) (by unfold UW; omega) (by decide) (end_rd wm) (fun a ha => by cases ha; exact .inr (.inr ⟨Nat.le_refl _, by rw [World.size_alloc]; exact Nat.lt_succ_self _⟩)))
        clear hBE
        go_upto_region 18 with (first
          | (go_at_call 19; (with_reducible refine XT3.out.mono ?_); rintro e w10 ⟨S10, o10, n10, b10, K10, hTR, hV, hF, _, _, hap⟩; (obtain ⟨q, rfl, rfl, rfl, hqb, hU10, hl10, hno10⟩ := end_take E8.out hTR); (obtain ⟨B10, d10, ev10, rfl, hR10, hE10⟩ := hV); (obtain rfl : ev10 = .nilIface := by (rcases hE10 with ⟨_, h⟩ | ⟨h, _⟩; exact h; exact absurd rfl h)); (have F10 := Lib.hid hF); (have hR10 : Rd w10 (.slice B10 q.b.length d10) q.b := hR10); (obtain ⟨x10, rfl⟩ := rd_some hR10 (by rw [hqb]; decide)); (have R10 := Lib.hid hR10); (have HA10 := Lib.hid (hap _ _ _ x10 _ _ rfl rfl)); (have HS10 := Lib.hid (And.intro hU10 (And.intro hl10 hno10))); (have HQB := Lib.hid hqb); clear hTR hF hR10 hE10 hU10 hl10 hno10 hqb hap)
          | (refine wpList_store_row rfl 27 (.tmp 12) (.tmp 88) rfl w10.heap.size #[.int .u8 q.tos, .int .u16 q.id, .bool q.df, .bool q.mf, .int .i64 q.off, .int .u8 q.ttl, .int .u8 q.proto, .int .u32 q.src, .int .u32 q.dst, .slice (some x10) q.b.length d10] rfl rfl 27 _ (heap_alloc_new w10 _) ipSize rfl (by simp [Value.oneCell']) ?_; rw [setRow_alloc]))
        clear XT3 F9 E8 cvs
        have hB11 : Below w10.heap.size w10 (w10.alloc (.cells #[.int .u8 q.tos, .int .u16 q.id, .bool q.df, .bool q.mf, .int .i64 q.off, .int .u8 q.ttl, .int .u8 q.proto, .int .u32 q.src, .int .u32 q.dst, .slice (some x10) q.b.length d10] 27)) := (Below.refl _ w10).alloc (Nat.le_refl _) _
        have F11 := Lib.hid (F10.out.add XX.out hB11)
        have R11 := Lib.hid (R10.out.below hB11)
        have M11 := Lib.hid (heap_alloc_new w10 (.cells #[.int .u8 q.tos, .int .u16 q.id, .bool q.df, .bool q.mf, .int .i64 q.off, .int .u8 q.ttl, .int .u8 q.proto, .int .u32 q.src, .int .u32 q.dst, .slice (some x10) q.b.length d10] 27))
        have HG11 : Hid (K10 w10.heap.size ∨ (w10.heap.size ≤ w10.heap.size ∧ w10.heap.size < (w10.alloc (.cells #[.int .u8 q.tos, .int .u16 q.id, .bool q.df, .bool q.mf, .int .i64 q.off, .int .u8 q.ttl, .int .u8 q.proto, .int .u32 q.src, .int .u32 q.dst, .slice (some x10) q.b.length d10] 27)).heap.size)) := Lib.hid (.inr ⟨Nat.le_refl _, by rw [World.size_alloc]; exact Nat.lt_succ_self _⟩)
        clear hB11 F10 R10
        obtain ⟨K11, hK11⟩ : ∃ K : Nat → Prop, (fun k => K10 k ∨ (w10.heap.size ≤ k ∧ k < (w10.alloc (.cells #[.int .u8 q.tos, .int .u16 q.id, .bool q.df, .bool q.mf, .int .i64 q.off, .int .u8 q.ttl, .int .u8 q.proto, .int .u32 q.src, .int .u32 q.dst, .slice (some x10) q.b.length d10] 27)).heap.size)) = K := ⟨_, rfl⟩
        have HA11 : Hid (x10.block < w4.heap.size ∨ K11 x10.block) := Lib.hid (by rw [← hK11]; exact HA10.out.imp id .inl)
        have HG11 : Hid (K11 w10.heap.size) := Lib.hid (by rw [← hK11]; exact HG11.out)
        rw [hK11] at F11
        clear hK11 HA10
        generalize w10.alloc (.cells #[.int .u8 q.tos, .int .u16 q.id, .bool q.df, .bool q.mf, .int .i64 q.off, .int .u8 q.ttl, .int .u8 q.proto, .int .u32 q.src, .int .u32 q.dst, .slice (some x10) q.b.length d10] 27) = w11 at F11 R11 M11 ⊢
        generalize w10.heap.size = G11 at M11 HG11 ⊢
        obtain ⟨z, hz⟩ : ∃ z, List.replicate 8 (0 : UInt8) = z := ⟨_, rfl⟩
        have hmk : (Instr.makeSlice 25 (.int .i64 8) (.int .i64 8)).run Tryd.prog w11 = .ok (.slice (some ⟨w11.heap.size, 0, none⟩) 8 8) (w11.alloc (bytesObj z)) := hz ▸ make_bytes 8 (by decide) w11
        have hB12 := below_al (Below.refl w11.heap.size w11) (bytesObj z)
        have HB12 := Lib.hid hB12
        have XT4 : Hid (Calls Tryd.prog 19 #[.pointer (some ⟨r, 0, none⟩), .agg #[.int .u8 0, .int .u16 9, .bool false, .bool true, .int .i64 0, .int .u8 0, .int .u8 0, .int .u32 0, .int .u32 0, .slice (some ⟨w11.heap.size, 0, none⟩) 8 8], .int .u64 1] (w11.alloc (bytesObj z)) fun e w' =>
            ∃ S' o n b, TakeR S10 (eightP 9) 1 S' o n b ∧ TakeVal o n b e w' ∧ Fx R w4 K11 w' r 9 S' ∧ ∀ k, K11 k → w'.heap[k]? = (w11.alloc (bytesObj z)).heap[k]?) :=
          Lib.hid (F11.out.takeN XX.out hB12 (p := eightP 9) (now := 1) (c := 8) (eight_in (by omega)) (by show z8.length ≤ _; decide) (by unfold UW; omega) (by decide) (show Rd _ (.slice _ z8.length 8) z8 from (show z8 = z from hz) ▸ Rd.of_obj (bytesObj_new w11 z8) (by show z8.length ≤ 8; decide)) (fun _ a ha => by cases ha; exact Nat.le_refl _))
        clear hB12
        go_upto_region 19 with (first
          | (go_at_call 19; (with_reducible refine XT4.out.mono ?_); rintro e w13 ⟨S13, o13, n13, b13, hTR, hV, hF, hk⟩; (obtain ⟨rfl, rfl, rfl, hl13, _⟩ := lone_wait HS10.out.1 (eight_bad 9) rfl HS10.out.2.2 (by rw [HS10.out.2.1]; omega) hTR); (obtain ⟨B6, d6, ev13, rfl, _, hE⟩ := hV); (obtain rfl : ev13 = .nilIface := by (rcases hE with ⟨_, h⟩ | ⟨h, _⟩; exact h; exact absurd rfl h)); (have F13 := Lib.hid hF); (have L13 : Hid (S13.length = 8) := Lib.hid (by rw [hl13, HS10.out.2.1])); (have HK13 := Lib.hid hk); clear hTR hF hE hl13 hk)
          | (refine wpList_store_row rfl 27 (.tmp 15) (.tmp 96) rfl w13.heap.size #[.int .u8 noIp.tos, .int .u16 noIp.id, .bool noIp.df, .bool noIp.mf, .int .i64 noIp.off, .int .u8 noIp.ttl, .int .u8 noIp.proto, .int .u32 noIp.src, .int .u32 noIp.dst, .slice B6 noIp.b.length d6] rfl rfl 27 _ (heap_alloc_new w13 _) ipSize rfl (by simp [Value.oneCell']) ?_; rw [setRow_alloc]))
        clear XT4 hmk
        have HKK : Hid (∀ k, k < w4.heap.size ∨ K11 k → w13.heap[k]? = w11.heap[k]?) := Lib.hid (fun k hk => by
          rcases hk with h | h
          · exact (F13.out.base.block k h).trans (F11.out.base.block k h).symm
          · exact (HK13.out k h).trans (HB12.out.block k (F11.out.lt k h)))
        have hB14 : Below w13.heap.size w13 (w13.alloc (.cells #[.int .u8 noIp.tos, .int .u16 noIp.id, .bool noIp.df, .bool noIp.mf, .int .i64 noIp.off, .int .u8 noIp.ttl, .int .u8 noIp.proto, .int .u32 noIp.src, .int .u32 noIp.dst, .slice B6 noIp.b.length d6] 27)) := (Below.refl _ w13).alloc (Nat.le_refl _) _
        have M13 := Lib.hid ((HKK.out G11 (.inr HG11.out)).trans M11.out)
        have M14 := Lib.hid ((hB14.block G11 (Array.getElem?_eq_some_iff.1 M13.out).1).trans M13.out)
        have R14 := Lib.hid ((rd_blk R11.out (HKK.out x10.block HA11.out)).below hB14)
        have F14 := Lib.hid (F13.out.to XX.out hB14)
        clear hB14 HKK M13 R11 M11 F13 HK13 HB12
        generalize w13.alloc (.cells #[.int .u8 noIp.tos, .int .u16 noIp.id, .bool noIp.df, .bool noIp.mf, .int .i64 noIp.off, .int .u8 noIp.ttl, .int .u8 noIp.proto, .int .u32 noIp.src, .int .u32 noIp.dst, .slice B6 noIp.b.length d6] 27) = w14 at F14 R14 M14 ⊢
        have c9 : w14.cell? ⟨G11, 9, none⟩ = some (.slice (some x10) q.b.length d10) := by simp [World.cell?, M14.out]
        have cv : (convert 25 9 (.slice (some x10) q.b.length d10)).run Tryd.prog w14 = .ok (.string ⟨#[0, 0, 0, 0, 0, 0, 0, 0, 101, 110, 100]⟩) w14 := by
          have h := convert_rd R14.out
          rw [show txt q.b = ⟨#[0, 0, 0, 0, 0, 0, 0, 0, 101, 110, 100]⟩ by rw [HQB.out]; rfl] at h
          exact h
        have XL := Lib.hid (F14.out.len XX.out)
        rw [L13.out] at XL
        go_wp2_with (go_at_call 20; (with_reducible refine XL.out.mono ?_); rintro e w15 ⟨rfl, hw15⟩; subst w15)
        go_ret
        exact ⟨rfl, below_to Bw5.out F14.out.base Bw5.out.size⟩
end Go.Proofs.YtfaimdopaocpkaaDoor
namespace Go.Proofs.YtfaimdopaocpkaaDoor
open Go Go.ChangeShapes Go.WideShapes Go.RowKit

/-- The contract. -/
def FragFullDoes : Prop := ∀ (p0 : Ip) (A0 : Option Addr) (c0 : Nat) (w : World), Hdl w → p0.Fit → Rd w (.slice A0 p0.b.length c0) p0.b → c0 ≤ 9223372036854775807 → Calls Tryd.prog 10 #[p0.val (.slice A0 p0.b.length c0)] w fun e w' => e = .returned (.bool true) ∧ Below w.heap.size w w'

set_option maxRecDepth 100000 in
theorem fragFull_lifted (hc : FragFullDoes) (os : Os) (started : os.Started) (H : Type) (enc : TypeId × Value → H) :
    ReturnsInHanded {} Tryd.checked os 10 .any (fun w args => (Rows.fragFullSpec.pre enc Tryd.prog Tryd.f10 [] false w args ∧ laidMetH Tryd.prog laidList w) ∧ sizedMet enc Tryd.prog Tryd.f10 (OpenSpec.ofChange Rows.fragFullSpec) false w args)
      (Rows.fragFullSpec.post enc Tryd.prog Tryd.f10 false true false false) := by
  refine returnsInHanded_of_change_and (C := Tryd.checked) (X := fun w _ => laidMetH Tryd.prog laidList w) (fun _ _ _ hh h => h.of_heap hh) ownGodebug started (by kernel_rfl) Tryd.func10
    (ChangeSpec.witness_at (enc := enc) (C := Tryd.checked) (os := os) (X := fun w _ => laidMetH Tryd.prog laidList w) false (laidWorld os) #[.agg #[.int .u8 0, .int .u16 0, .bool false, .bool false, .int .i64 0, .int .u8 0, .int .u8 0, .int .u32 0, .int .u32 0, .slice none 0 0]] 8 rfl (by kernel_rfl) (by kernel_rfl) (by kernel_rfl) (by kernel_rfl) (by kernel_rfl) (laidWorld_met os _)) ?_
  intro W base args ds gs before hval0 hW _ _ hL _
  have hval : ∀ (j : Nat) t v, Tryd.f10.params[j]? = some t → args[j]? = some v → Value.okWide Tryd.prog W .any base t v := hval0
  have hW' := hW
  obtain ⟨p, q, hA0, hV0, rfl, hfz, hnd⟩ := hW
  have hA : DataW.TrodAll enc Tryd.prog W 0 (fun _ => true) true Tryd.f10.params.toList args.toList ds p := hA0
  have hV : DataW.TrodVars enc Tryd.prog W (fun _ => true) [] gs q := hV0
  rw [Tryd.params10] at hA hval
  obtain ⟨v0, vs0, d0, ds0, p0, q0, hargs, rfl, rfl, h0, r0⟩ := trodAll_cons hA
  obtain ⟨rfl, rfl, rfl⟩ := trodAll_nil r0
  obtain rfl : args = #[v0] := by cases args; simpa using hargs
  obtain ⟨rfl, rfl⟩ := trodVars_none hV
  obtain ⟨p0, A0, c0, rfl, b0, e0, a0⟩ := open_ip (hval 0 27 v0 rfl rfl) h0
  refine (hc p0 A0 c0 W (hdl_of_laid hL) a0 e0 b0).mono fun e W' ⟨he, hb⟩ => ?_
  subst he
  exact ⟨_, rfl, law_post rfl rfl rfl (by rw [Tryd.params10]; intro t ht; simp at ht; (try rcases ht with rfl) <;> (try subst ht) <;> exact ⟨by kernel_rfl, by rw [typesSize]; decide⟩) hW' hb⟩
theorem fragFull_row (hc : FragFullDoes) : Rows.FragFullSaid :=
  OpenClaim.holds_of_wide 10 Tryd.f10 rfl rfl rfl rfl rfl rfl rfl ⟨rfl, rfl, rfl, rfl, rfl⟩ rfl rfl rfl rfl rfl (by kernel_rfl) Tryd.func10 (by kernel_rfl)
    (of_decide_eq_true (by kernel_rfl)) (by unfold Func.isWrapper; rw [if_neg (of_decide_eq_false (by kernel_rfl))]; exact ⟨rfl, rfl⟩)
    (fun os started H enc _ => fragFull_lifted hc os started H enc)
theorem fragFull_card (hrow : Rows.FragFullSaid) : Rows.FragFullCardSaid :=
  Claim7.holds_tied_plain_at .later [] [.handle] true _ true
    hrow (fun _ h => by cases h) (by kernel_rfl) (fun _ h => by cases h) fragFull_row_tie rfl ⟨rfl, rfl⟩ (by kernel_rfl) rfl
    (fun f fn hf hfn => by
      obtain rfl : f = 10 := Option.some.inj ((show Tryd.prog.funcNamed "underpass/underpasslaw10.FragFull" = some 10 by kernel_rfl).symm.trans hf) |>.symm
      obtain rfl : fn = Tryd.f10 := (Option.some.inj (Tryd.func10.symm.trans hfn)).symm
      exact ⟨by kernel_rfl, fun j t ht => by
        rw [Tryd.params10] at ht
        rcases j with _ | j
        · have h3 : t = 27 := by simpa using ht.symm
          subst h3
          exact (show Tryd.prog.wantsStandIn 27 = false by kernel_rfl)
        · simp at ht⟩)
    (by kernel_rfl)
end Go.Proofs.YtfaimdopaocpkaaDoor
namespace Go.Proofs.YtfaimdopaocpkaaDoor
theorem fragFull_any : FragFullDoes := fun p A c w hg hf hr hc => fragFull_of frag_ok fshown_any p A c w hg hf hc hr
theorem fragFull_holds : Rows.FragFullCardSaid := fragFull_card (fragFull_row fragFull_any)
end Go.Proofs.YtfaimdopaocpkaaDoor
