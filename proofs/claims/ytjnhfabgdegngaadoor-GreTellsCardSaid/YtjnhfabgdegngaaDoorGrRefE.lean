/-
  What is proved: the document's Encap of layer 13 by contract.
  Conditions: the header's numbers fit their types.
-/
import Derived.Test.YtjnhfabgdegngaaDoorGrSaid
namespace Go.Proofs.YtjnhfabgdegngaaDoor
open Go.RowKit

/-- A box of the document's header. -/
structure RBox (w : World) (G : Nat) (h : GH) : Prop where
  o : w.heap[G]? = some (.cells h.row 35)
section
variable {w w' : World} {G : Nat} {h : GH}
theorem RBox.lt (b : RBox w G h) : G < w.heap.size := (Array.getElem?_eq_some_iff.1 b.o).1
theorem RBox.below (b : RBox w G h) (hb : Below w.heap.size w w') : RBox w' G h := ⟨(hb.block G b.lt).trans b.o⟩
theorem RBox.new (w : World) (h : GH) : RBox (w.alloc (.cells h.row 35)) w.heap.size h := ⟨heap_alloc_new w _⟩
theorem RBox.c0 (b : RBox w G h) : w.cell? ⟨G, 0, none⟩ = some (.bool h.s) := by rw [cell_of_row w G 0 _ _ _ b.o]; rfl
theorem RBox.c1 (b : RBox w G h) : w.cell? ⟨G, 1, none⟩ = some (.bool h.k) := by rw [cell_of_row w G 1 _ _ _ b.o]; rfl
theorem RBox.c2 (b : RBox w G h) : w.cell? ⟨G, 2, none⟩ = some (.int .u32 (h.key : Int)) := by rw [cell_of_row w G 2 _ _ _ b.o]; rfl
theorem RBox.c3 (b : RBox w G h) : w.cell? ⟨G, 3, none⟩ = some (.bool h.q) := by rw [cell_of_row w G 3 _ _ _ b.o]; rfl
theorem RBox.c4 (b : RBox w G h) : w.cell? ⟨G, 4, none⟩ = some (.int .u32 (h.seq : Int)) := by rw [cell_of_row w G 4 _ _ _ b.o]; rfl
theorem RBox.free (b : RBox w G h) (i : Nat) : w.frozen? ⟨G, i, none⟩ = false := by simp [World.frozen?, b.o]
end
theorem rgrencap_bad (h : GH) (l : List UInt8) (w : World) (hw : frameWrong l.length ≠ 0) :
    Calls Tryd.prog 7 #[.agg #[.bool h.s, .bool h.k, .int .u32 (h.key : Int), .bool h.q, .int .u32 (h.seq : Int)], .string (txt l)] w fun e w' => e = .returned (.tuple #[.string ⟨#[]⟩, .int .i64 (frameWrong l.length : Nat)]) ∧ Below w.heap.size w w' := by
  have HB := Lib.hid (gbelow_al (Below.refl w.heap.size w) (.cells h.row 35))
  have HZ : Hid (∀ W, _) := fun W => rsize_any l.length W
  have hsz := txt_size l
  have h3 : ¬ ((frameWrong l.length : Nat) : Int) = 0 := by omega
  clear hw
  generalize ((frameWrong l.length : Nat) : Int) = q at *
  generalize txt l = TF at *
  go_enter Tryd.func7, Tryd.ntmps7
  go_upto_region 1 with fail
  generalize hW : w.alloc (.cells h.row 35) = W at HB
  unfold GH.row at hW
  rw [hW]
  clear hW
  go_wp2_with fail
  refine (HZ.out _).mono ?_
  rintro e w' ⟨rfl, rfl⟩
  go_wp2_with fail
  go_ret2
  exact ⟨rfl, HB.out⟩
/-- The flags' first byte but the sum's. -/
def GH.low (h : GH) : Nat := (if h.k then 32 else 0) + (if h.q then 16 else 0)
theorem GH.b0_low (h : GH) : h.b0.toNat = (if h.s then 128 else 0) + h.low := by rw [h.b0_nat]; unfold GH.low; omega
theorem GH.low_lt (h : GH) : h.low ≤ 48 := by unfold GH.low; split <;> split <;> omega
theorem GH.pack_txt0 (h : GH) (hs : h.s = false) (l : List UInt8) : txt [h.b0] ++ ⟨#[0, 101, 88]⟩ ++ txt (h.keyBytes ++ h.seqBytes ++ l) = txt (h.pack l) := by
  unfold GH.pack
  rw [h.bytes_eq, show (⟨#[0, 101, 88]⟩ : ByteArray) = txt [0, 101, 88] from rfl, txt_append, txt_append]
  unfold GH.rest GH.sumBytes
  rw [if_neg (by rw [hs]; decide)]
  congr 1
theorem GH.first_txt (h : GH) : txt [h.b0] ++ ⟨#[0, 101, 88]⟩ = txt [h.b0, 0, 101, 88] := by
  rw [show (⟨#[0, 101, 88]⟩ : ByteArray) = txt [0, 101, 88] from rfl, txt_append]
  rfl
theorem GH.zero_txt (h : GH) (hs : h.s = true) (l : List UInt8) : txt [h.b0, 0, 101, 88] ++ ⟨#[0, 0, 0, 0]⟩ ++ txt (h.keyBytes ++ h.seqBytes ++ l) = txt (h.bytes 0 ++ l) := by
  rw [h.bytes_eq, show (⟨#[0, 0, 0, 0]⟩ : ByteArray) = txt [0, 0, 0, 0] from rfl, txt_append, txt_append]
  unfold GH.rest GH.sumBytes
  rw [if_pos hs, show be2 0 ++ be2 0 = [0, 0, 0, 0] by decide]
  congr 1
theorem GH.pack_txt (h : GH) (hs : h.s = true) (c : Nat) (l : List UInt8) : txt [h.b0, 0, 101, 88] ++ txt (be2 c) ++ ⟨#[0, 0]⟩ ++ txt (h.keyBytes ++ h.seqBytes ++ l) = txt (h.bytes c ++ l) := by
  rw [h.bytes_eq, show (⟨#[0, 0]⟩ : ByteArray) = txt [0, 0] from rfl, txt_append, txt_append, txt_append]
  unfold GH.rest GH.sumBytes
  rw [if_pos hs, show be2 0 = [0, 0] by decide]
  congr 1
set_option maxRecDepth 100000 in
set_option maxHeartbeats 4000000 in
theorem rgrencap_ok (h : GH) (hf : h.Fit) (l : List UInt8) (w : World) (hw : frameWrong l.length = 0) :
    Calls Tryd.prog 7 #[.agg #[.bool h.s, .bool h.k, .int .u32 (h.key : Int), .bool h.q, .int .u32 (h.seq : Int)], .string (txt l)] w fun e w' => e = .returned (.tuple #[.string (txt (h.pack l)), .int .i64 0]) ∧ Below w.heap.size w w' := by
  have HX := Lib.hid (RBox.new w h)
  have HB := Lib.hid (gbelow_al (Below.refl w.heap.size w) (.cells h.row 35))
  have HZ : Hid (∀ W, _) := fun W => rsize_any l.length W
  rw [hw] at HZ
  have h34 := grframe_fits hw
  have HKy : Hid (∀ W, _) := fun W => rfour_any h.key hf.key W
  have HSq : Hid (∀ W, _) := fun W => rfour_any h.seq hf.seq W
  have HL := Lib.hid h34
  clear hw h34 hf
  have hsz := txt_size l
  go_enter Tryd.func7, Tryd.ntmps7
  go_upto_region 1 with fail
  generalize hW : w.alloc (.cells h.row 35) = W at HB HX
  unfold GH.row at hW
  rw [hW]
  clear hW
  generalize hG : w.heap.size = G at *
  have HE := Lib.hid hG
  have HG : Hid (G < W.heap.size) := HX.out.lt
  clear hG
  generalize hTL : txt l = TL at *
  have HTL := Lib.hid hTL
  clear hTL
  go_wp2_with fail
  refine (HZ.out _).mono ?_
  rintro e w' ⟨rfl, rfl⟩
  obtain ⟨b, hb, c1, c2⟩ : ∃ b, Hid (h.k = b) ∧ W.cell? ⟨G, 1, none⟩ = some (.bool b) ∧ W.cell? ⟨G, 2, none⟩ = some (.int .u32 (h.key : Int)) := ⟨h.k, rfl, HX.out.c1, HX.out.c2⟩
  go_upto_if 18 with fail
  go_cut [7, 8] (fun s7 s8 wx => s7 = .int .u8 ((if h.k then 32 else 0 : Nat) : Int) ∧ s8 = .string (txt h.keyBytes) ∧ Below W.heap.size W wx)
  case first =>
    cases b
    · have e1 : Hid ((if h.k = true then 32 else 0 : Nat) = 0) := by rw [hb.out]; rfl
      have e2 : Hid (h.keyBytes = []) := by unfold GH.keyBytes; rw [hb.out]; rfl
      clear hb
      go_wp2_with fail
      go_meet
      exact ⟨by rw [e1.out]; rfl, by rw [e2.out]; rfl, Below.refl _ _⟩
    · have e1 : Hid ((if h.k = true then 32 else 0 : Nat) = 32) := by rw [hb.out]; rfl
      have e2 : Hid (h.keyBytes = be4 h.key) := by unfold GH.keyBytes; rw [hb.out]; rfl
      have s4 : (txt (be4 h.key)).size = 4 := rfl
      clear hb
      generalize hT4 : txt (be4 h.key) = T4 at *
      have HT4 := Lib.hid hT4
      clear hT4
      go_wp2_with fail
      refine (HKy.out _).mono ?_
      rintro e w3 ⟨rfl, h3⟩
      have H3 := Lib.hid h3
      clear h3
      go_wp2_with fail
      go_meet
      refine ⟨by rw [e1.out]; rfl, ?_, H3.out⟩
      rw [e2.out, ← HT4.out]
      exact congrArg Value.string (txt_append [] (be4 h.key))
  obtain ⟨rfl, rfl, h2⟩ := hcut
  have H2 := Lib.hid h2
  have HX2 := Lib.hid (HX.out.below h2)
  clear h2 hb c1 c2
  have HF1 : Hid ((if h.k then 32 else 0 : Nat) ≤ 32 ∧ h.keyBytes.length ≤ 4) := ⟨by split <;> omega, h.key_le⟩
  obtain ⟨b, hb, c1, c2⟩ : ∃ b, Hid (h.q = b) ∧ wc.cell? ⟨G, 3, none⟩ = some (.bool b) ∧ wc.cell? ⟨G, 4, none⟩ = some (.int .u32 (h.seq : Int)) := ⟨h.q, rfl, HX2.out.c3, HX2.out.c4⟩
  go_upto_if 27 with fail
  go_cut [7, 8] (fun s7 s8 wx => s7 = .int .u8 ((h.low : Nat) : Int) ∧ s8 = .string (txt (h.keyBytes ++ h.seqBytes)) ∧ Below W.heap.size W wx)
  case first =>
    have hk32 := HF1.out.1
    have hks := txt_size h.keyBytes
    have hks2 := HF1.out.2
    generalize hK : txt h.keyBytes = TK at *
    have HK := Lib.hid hK
    obtain ⟨F, hF⟩ : ∃ F : Int, (((if h.k = true then 32 else 0 : Nat)) : Int) = F := ⟨_, rfl⟩
    have HF := Lib.hid hF
    have hF0 : 0 ≤ F := by omega
    have hF1 : F ≤ 32 := by omega
    rw [hF]
    clear hF hK hk32
    cases b
    · have e1 : Hid ((h.low : Nat) = (if h.k = true then 32 else 0)) := by unfold GH.low; rw [hb.out]; rfl
      have e2 : Hid (h.keyBytes ++ h.seqBytes = h.keyBytes) := by unfold GH.seqBytes; rw [hb.out]; exact List.append_nil _
      clear hb
      go_wp2_with fail
      go_meet
      exact ⟨by rw [e1.out, HF.out], by rw [e2.out, HK.out], H2.out⟩
    · have e1 : Hid ((h.low : Nat) = (if h.k = true then 32 else 0) + 16) := by unfold GH.low; rw [hb.out]; rfl
      have e2 : Hid (h.keyBytes ++ h.seqBytes = h.keyBytes ++ be4 h.seq) := by unfold GH.seqBytes; rw [hb.out]; rfl
      have s4 : (txt (be4 h.seq)).size = 4 := rfl
      clear hb
      generalize hT4 : txt (be4 h.seq) = T4 at *
      have HT4 := Lib.hid hT4
      have z1 : ¬ 9223372036854775807 < TK.size + 4 := by omega
      clear hT4
      go_wp2_with fail
      refine (HSq.out _).mono ?_
      rintro e w3 ⟨rfl, h3⟩
      have H3 := Lib.hid (below_to H2.out h3 H2.out.size)
      clear h3
      go_wp2_with fail
      go_meet
      refine ⟨by rw [e1.out]; have := HF.out; congr 1; omega, ?_, H3.out⟩
      rw [e2.out, ← HT4.out, ← HK.out, txt_append]
  obtain ⟨rfl, rfl, h3⟩ := hcut
  have H3 := Lib.hid h3
  have HX3 := Lib.hid (HX.out.below h3)
  clear h3 hb c1 c2 HX2 H2 HF1 HKy HSq HX
  have hlw := h.low_lt
  have hb0 := h.b0_low
  have hkl : (h.keyBytes ++ h.seqBytes).length ≤ 8 := by rw [List.length_append]; have := h.key_le; have := h.seq_le; omega
  have hks := txt_size (h.keyBytes ++ h.seqBytes)
  have hR : txt (h.keyBytes ++ h.seqBytes) ++ TL = txt (h.keyBytes ++ h.seqBytes ++ l) := by rw [← HTL.out, txt_append]
  have hRs := txt_size (h.keyBytes ++ h.seqBytes ++ l)
  rw [List.length_append] at hRs
  obtain ⟨nK, hnK⟩ : ∃ n, (h.keyBytes ++ h.seqBytes).length = n := ⟨_, rfl⟩
  rw [hnK] at hks hRs hkl
  obtain ⟨nL, hnL⟩ : ∃ n, l.length = n := ⟨_, rfl⟩
  rw [hnL] at hsz hRs
  obtain ⟨nR, hnR⟩ : ∃ n, nK + nL = n := ⟨_, rfl⟩
  rw [hnR] at hRs
  obtain ⟨F, hF⟩ : ∃ F : Int, ((h.low : Nat) : Int) = F := ⟨_, rfl⟩
  have hF0 : 0 ≤ F := by omega
  have hF1 : F ≤ 48 := by omega
  have HLl : nL ≤ 9000 := by have := HL.out.2; omega
  rw [hF]
  obtain ⟨b, hb, c0⟩ : ∃ b, Hid (h.s = b) ∧ wc.cell? ⟨G, 0, none⟩ = some (.bool b) := ⟨h.s, rfl, HX3.out.c0⟩
  have HBc := Lib.hid (below_to HB.out H3.out (Nat.le_of_lt HG.out))
  cases b
  · have hy : F = (h.b0.toNat : Int) := by rw [hb0, ← hF, if_neg (by rw [hb.out]; decide)]; omega
    have cv := convert_byte wc h.b0 F hy
    have HFin := Lib.hid (h.pack_txt0 hb.out l)
    have h1s : (txt [h.b0]).size = 1 := rfl
    have HB2 : Hid (∀ o, Below w.heap.size w (wc.alloc o)) := fun o => by
      have k := HBc.out
      have e := HE.out
      rw [← e] at k
      exact k.alloc k.size o
    clear hy hF hb hb0 hlw
    generalize txt [h.b0] = T1 at *
    generalize txt (h.keyBytes ++ h.seqBytes ++ l) = TR at *
    generalize txt (h.keyBytes ++ h.seqBytes) = TK at *
    have z1 : ¬ 9223372036854775807 < nK + nL := by omega
    have z3 : ¬ 9223372036854775807 < 4 + nR := by omega
    clear hnK hnL hnR
    go_wp2_with fail
    go_ret2
    exact ⟨by rw [← HFin.out]; rfl, HB2.out _⟩
  · obtain ⟨F2, hF2⟩ : ∃ F2 : Int, F + 128 = F2 := ⟨_, rfl⟩
    have hy : F2 = (h.b0.toNat : Int) := by rw [hb0, ← hF2, ← hF, if_pos hb.out]; omega
    have cv := convert_byte wc h.b0 F2 hy
    have e1 := h.first_txt
    have e2 := Lib.hid (h.zero_txt hb.out l)
    have e3 := Lib.hid (h.pack_txt hb.out (ck (h.bytes 0 ++ l)) l)
    have hbl : (h.bytes 0 ++ l).length ≤ 1099511627776 := by rw [List.length_append, GH.bytes_len]; have := h.at_le; omega
    have HSm : Hid (∀ W, _) := fun W => refSum_any (h.bytes 0 ++ l) hbl W
    rw [← e2.out] at HSm
    have HPK : Hid (h.bytes (ck (h.bytes 0 ++ l)) ++ l = h.pack l) := rfl
    rw [HPK.out] at e3
    have HB2 : Hid (∀ o, Below w.heap.size w (wc.alloc o)) := fun o => by
      have k := HBc.out
      have e := HE.out
      rw [← e] at k
      exact k.alloc k.size o
    have h1s : (txt [h.b0]).size = 1 := rfl
    have h4s : (txt [h.b0, 0, 101, 88]).size = 4 := rfl
    have hck := ck_le (h.bytes 0 ++ l)
    clear hy hF hb hb0 hlw HPK e2 hbl
    generalize ck (h.bytes 0 ++ l) = q at *
    have h2s : (txt (be2 q)).size = 2 := rfl
    obtain ⟨C, hC⟩ : ∃ C : Int, ((q : Nat) : Int) = C := ⟨_, rfl⟩
    rw [hC] at HSm
    obtain ⟨E1, hE1⟩ : ∃ E1 : Int, (q : Int) / 256 = E1 := ⟨_, rfl⟩
    have w1 : IntKind.u16.wrap (Int.tdiv C 256) = E1 := by rw [IntKind.wrap_u16, Int.tdiv_eq_ediv_of_nonneg (by omega)]; omega
    have w2 : E1 % 256 = E1 := by omega
    have cw : Hid (∀ W : World, (convert 25 9 (.slice (some ⟨W.heap.size, 0, none⟩) 2 2)).run Tryd.prog (W.alloc (.cells #[.int .u8 E1, .int .u8 (C % 256)] 5)) = .ok (.string (txt (be2 q))) (W.alloc (.cells #[.int .u8 E1, .int .u8 (C % 256)] 5))) := fun W => by
      have k := convert_rd (Rd.of_obj (c := 2) (bytesObj_new W (be2 q)) (Nat.le_refl _))
      have e : bytesObj (be2 q) = .cells #[.int .u8 E1, .int .u8 (C % 256)] 5 := by
        show Obj.cells #[.int .u8 (((UInt8.ofNat (q / 256)).toNat : Nat) : Int), .int .u8 (((UInt8.ofNat q).toNat : Nat) : Int)] 5 = _
        rw [ofNat_lt, ofNat_lt, ← hC, show ((q / 256 % 256 : Nat) : Int) = E1 by omega, show ((q % 256 : Nat) : Int) = (q : Int) % 256 by omega]
      rw [e] at k
      exact k
    have hC0 : 0 ≤ C := by omega
    have hC1 : C ≤ 65535 := by omega
    generalize txt [h.b0, 0, 101, 88] = TF at *
    generalize txt [h.b0] = T1 at *
    generalize txt (h.keyBytes ++ h.seqBytes ++ l) = TR at *
    generalize txt (h.keyBytes ++ h.seqBytes) = TK at *
    generalize txt (be2 q) = TC at *
    have z1 : ¬ 9223372036854775807 < nK + nL := by omega
    have z4 : ¬ 9223372036854775807 < 8 + nR := by omega
    clear hnK hnL hnR
    clear hC hck hE1
    go_wp2_with fail
    refine (HSm.out _).mono ?_
    rintro e w5 ⟨rfl, m, rfl⟩
    have HB5 := Lib.hid (gbelow_drawn (k := m) (HB2.out (.cells #[.int .u8 F2] 5)))
    generalize (wc.alloc (.cells #[.int .u8 F2] 5)).drewN m = W5 at *
    have cw5 := cw.out W5
    go_wp2_with fail
    go_ret2
    exact ⟨by rw [← e3.out]; rfl, HB5.out.alloc HB5.out.size _⟩
theorem rgrencap_any (h : GH) (hf : h.Fit) (l : List UInt8) (w : World) :
    Calls Tryd.prog 7 #[.agg #[.bool h.s, .bool h.k, .int .u32 (h.key : Int), .bool h.q, .int .u32 (h.seq : Int)], .string (txt l)] w fun e w' => e = .returned (.tuple #[.string (if frameWrong l.length = 0 then txt (h.pack l) else ⟨#[]⟩), .int .i64 (frameWrong l.length : Nat)]) ∧ Below w.heap.size w w' := by
  by_cases hw : frameWrong l.length = 0
  · rw [if_pos hw, hw]
    exact rgrencap_ok h hf l w hw
  · rw [if_neg hw]
    exact rgrencap_bad h l w hw
end Go.Proofs.YtjnhfabgdegngaaDoor
