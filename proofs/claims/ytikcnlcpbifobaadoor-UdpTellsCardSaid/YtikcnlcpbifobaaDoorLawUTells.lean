/-
  What is proved: UdpTells' function by contract: it returns true and leaves all older memory as it was.
  Conditions: errors.errorType holds the handle of the type error; the datagram's numbers fit their types; the bytes' capacities are ints.
-/
import Derived.Test.YtikcnlcpbifobaaDoorUBoth
import Derived.Test.YtikcnlcpbifobaaDoorUBk
namespace Go.Proofs.YtikcnlcpbifobaaDoor
open Go.RowKit

/-- Bytes written over in one block. -/
structure Over6 (b L : Nat) (W wr : World) : Prop where
  row : ∃ l : List UInt8, l.length = L ∧ BAt wr b l
  kept : Fr (fun a => a.block = b) W wr
theorem Over6.dg {b L : Nat} {W wr : World} (h : Over6 b L W wr) {G : Nat} {p : Dg} {v : Value} (hx : DgAt W G p v) (hne : G ≠ b) : DgAt wr G p v :=
  (h.kept.block G hx.lt (fun a ha => by subst ha; exact fun e => hne e.symm)).trans hx
theorem Over6.rd {b L : Nat} {W wr : World} (h : Over6 b L W wr) {G n c : Nat} {bs : List UInt8} (hx : Rd W (.slice (some ⟨G, 0, none⟩) n c) bs) (hne : G ≠ b) : Rd wr (.slice (some ⟨G, 0, none⟩) n c) bs := by
  obtain ⟨A, c', e, hc, hi⟩ := hx
  refine ⟨A, c', e, hc, fun h0 => ?_⟩
  obtain ⟨g', o, e1, hi⟩ := hi h0
  refine ⟨g', o, e1, fun j u hu => ?_⟩
  cases e
  cases e1
  have hq := hi j u hu
  exact (h.kept.cell _ (World.block_lt_of_cell? _ _ hq) hne).trans hq
theorem Over6.old {b L n : Nat} {w W wr : World} (h : Over6 b L W wr) (hb : Below n w W) (hn : n ≤ b) (hz : n ≤ W.heap.size) : Below n w wr := hb.trans (h.kept.below hz (fun x hx => by rw [hx]; exact hn))
theorem Over6.set {b L : Nat} {W wr : World} (h : Over6 b L W wr) (k : Nat) (x : UInt8) : Over6 b L W (wr.setCell ⟨b, k, none⟩ (B8 x)) := by
  obtain ⟨l, hl, hr⟩ := h.row
  exact ⟨⟨l.set k x, by rw [List.length_set]; exact hl, hr.set k x⟩, h.kept.set ⟨b, k, none⟩ _ rfl⟩
theorem ufront {A : Option Addr} {c : Nat} {l : List UInt8} {w : World} (h : Rd w (.slice A l.length c) l) (k : Nat) : Rd w (.slice A (l.take k).length c) (l.take k) := by
  have h1 := h.frontAt (K := (l.take k).length) (by rw [List.length_take]; omega)
  have e : l.take (l.take k).length = l.take k := by
    rw [List.length_take]
    by_cases hl : l.length ≤ k
    · rw [Nat.min_eq_right hl, List.take_of_length_le (Nat.le_refl _), List.take_of_length_le hl]
    · rw [Nat.min_eq_left (by omega)]
  rwa [e] at h1
theorem ucap {A : Option Addr} {n c : Nat} {l : List UInt8} {w : World} (h : Rd w (.slice A n c) l) : l.length ≤ c := by
  obtain ⟨A', c', e, hc, _⟩ := h
  simp only [Value.slice.injEq] at e
  rw [e.2.2]
  exact hc
set_option maxRecDepth 100000 in
set_option maxHeartbeats 40000000 in
theorem udpTells_any (A0 : Option Addr) (c0 : Nat) (l0 : List UInt8) (p1 : Dg) (A1 : Option Addr) (c1 : Nat) (n2 : Nat) (n3 : Nat) (w : World) (hg : Hdl w) (hr0 : Rd w (.slice A0 l0.length c0) l0) (_hc0 : c0 ≤ 9223372036854775807)
    (hf1 : p1.Fit) (hr1 : Rd w (.slice A1 p1.b.length c1) p1.b) (_hc1 : c1 ≤ 9223372036854775807) (h2 : n2 < 4294967296) (h3 : n3 < 4294967296) :
    Calls Tryd.prog 3 #[.slice A0 l0.length c0, p1.val (.slice A1 p1.b.length c1), .int .u32 (n2 : Int), .int .u32 (n3 : Int)] w fun e w' => e = .returned (.bool true) ∧ Below w.heap.size w w' := by
  have b1 := below_al (Below.refl w.heap.size w) (p1.obj (.slice A1 p1.b.length c1))
  have hlc0 := ucap hr0
  obtain ⟨ls, hls⟩ : ∃ ls, l0.take 3000 = ls := ⟨_, rfl⟩
  have HS := Lib.hid (uShown_any _ (hg.below b1))
  have HX0 : Hid (DgAt (w.alloc (p1.obj (.slice A1 p1.b.length c1))) w.heap.size p1.few (.slice A1 p1.b.length c1)) := DgAt.new w p1 (.slice A1 p1.b.length c1)
  have HB0 := Lib.hid b1
  have HRQ := Lib.hid (Dg.few_rd hr1)
  have HQI := Lib.hid (Dg.few_in hf1)
  have HQN := Lib.hid p1.few_n
  have HFEW : Hid (p1.few.b.length ≤ 3000) := by have := p1.few_len; show _ ≤ _; omega
  have HNN : Hid (n2 < 4294967296 ∧ n3 < 4294967296) := ⟨h2, h3⟩
  obtain ⟨M1, hM1⟩ : ∃ M : Int, ((p1.b.length : Nat) : Int) = M := ⟨_, rfl⟩
  obtain ⟨K1, hK1⟩ : ∃ K : Int, ((p1.few.b.length : Nat) : Int) = K := ⟨_, rfl⟩
  have hx1 := p1.few_len
  have HMIN1 : Hid (∀ W, _) := fun W => min_run (P := Tryd.prog) #[3, 3] 3 M1 3000 K1 (by omega) W
  have HKK : Hid (0 ≤ K1 ∧ K1 ≤ (c1 : Int) ∧ K1.toNat = p1.few.b.length) := ⟨by omega, by have := Dg.few_cap hr1; omega, by omega⟩
  have HM1 := Lib.hid hM1
  have HR0 : Hid (Rd w (.slice A0 ls.length c0) ls) := by rw [← hls]; exact ufront hr0 3000
  have hk1 : ls.length ≤ l0.length := by rw [← hls, List.length_take]; omega
  have hk2 : ls.length ≤ 3000 := by rw [← hls, List.length_take]; omega
  have hmin := fun W => min_run (P := Tryd.prog) #[3, 3] 3 (l0.length : Int) 3000 (ls.length : Int) (by rw [← hls, List.length_take]; omega) W
  have hi1 : (ls.length : Int) ≤ (l0.length : Int) := by omega
  have HK : Hid (ls.length ≤ 3000) := hk2
  clear hg b1 hr0 hf1 hr1 hls hM1 hK1 hx1
  generalize l0.length = n0 at *
  have hmc : ls.length ≤ c0 := by omega
  have hmc2 : ¬ c0 < ls.length := by omega
  have hmc3 : (ls.length : Int) ≤ (c0 : Int) := by omega
  rw [Dg.val_lit]
  have e0 : p1.src = p1.few.src ∧ p1.dst = p1.few.dst ∧ p1.plain = p1.few.plain := ⟨rfl, rfl, rfl⟩
  unfold Dg.obj at HS
  generalize hW0 : w.alloc (p1.obj (.slice A1 p1.b.length c1)) = W0 at HX0 HB0
  unfold Dg.obj at hW0
  rw [hW0] at HS
  rw [e0.1, e0.2.1, e0.2.2] at hW0 ⊢
  clear e0
  generalize p1.few = q at *
  go_enter Tryd.func3, Tryd.ntmps3
  go_upto_region 1 with fail
  (try rw [hW0])
  clear hW0
  go_wp2_with fail
  refine HS.out.mono ?_
  rintro e w1 ⟨rfl, hl⟩
  have hx1 := HX0.out.below hl
  have hb1 := below_to HB0.out hl HB0.out.size
  obtain ⟨g, c', W2, run1, mine1, _, _, _⟩ := (Mine.first (Below.refl w1.heap.size w1)).append ls _ (HR0.out.below (below_al hb1 _)) (by simp; omega)
  rw [List.nil_append] at run1 mine1
  have E1 := Lib.hid run1
  have HX2 := Lib.hid (hx1.below mine1.old)
  have HRB2 := Lib.hid mine1.rd
  have hb2 := below_to hb1 mine1.old hb1.size
  have HGL := Lib.hid mine1.row.lt
  have hng : w.heap.size < g := Nat.lt_of_lt_of_le hx1.lt mine1.new
  generalize hn : w.heap.size = n at *
  have HW := Lib.hid hn
  have HB2 := Lib.hid hb2
  have HNG := Lib.hid hng
  clear HS hl HX0 HB0 HR0 hx1 hb1 run1 mine1 hb2 hng hn
  go_upto_region 3 with (at_builtin; refine wpList_append_eq rfl (.tmp 21) (.tmp 26) 22 rfl _ _ rfl rfl _ _ E1.out ?_)
  clear E1 hmin hk1 hk2 hi1 hmc hmc2 hmc3
  have v0 := convert_rd HRB2.out
  go_upto_region 4 with fail
  clear v0
  rcases dg_or_none ls HK.out n2 n3 HNN.out.1 HNN.out.2 with ⟨m, k, t, hno⟩ | ⟨z, han⟩
  · as_aux_lemma =>
      have HNO := Lib.hid hno
      have XP := Lib.hid (hno.parse _ _ W2 HRB2.out)
      clear hno
      unfold ToldErr noDgRow at XP
      go_wp2_with fail
      refine XP.out.mono ?_
      rintro e w3 ⟨b3, rfl, hc3, hl3⟩
      have hb4 := below_al (Below.refl w3.heap.size w3) (.cells #[.int .u16 0, .int .u16 0, .bool false, .slice none 0 0] 25)
      have l4 := below_to hl3 hb4 hl3.size
      have H7 := Lib.hid (heap_alloc_new w3 (.cells #[.int .u16 0, .int .u16 0, .bool false, .slice none 0 0] 25))
      have HC4 := Lib.hid (hc3.below hb4)
      have HX4 := Lib.hid (HX2.out.below l4)
      have HRB4 := Lib.hid (HRB2.out.below l4)
      have HB4 := Lib.hid (ubelow_on HB2.out HW.out l4)
      clear hc3 hl3 hb4 l4 XP HX2 HRB2 HB2
      generalize hw4 : w3.alloc (.cells #[.int .u16 0, .int .u16 0, .bool false, .slice none 0 0] 25) = w4 at *
      have HWW := Lib.hid hw4
      clear hw4
      go_upto_region 5 with fail
      rw [HWW.out]
      clear HWW
      generalize w3.heap.size = g7 at *
      have XR := Lib.hid (HNO.out.ref w4)
      unfold RErr at XR
      go_wp2_with fail
      refine XR.out.mono ?_
      rintro e w5 ⟨rfl, hl5⟩
      have hb6 := below_al (Below.refl w5.heap.size w5) (.cells #[.int .u32 0, .int .u32 0, .bool false, .string ⟨#[]⟩] 34)
      have l6 := below_to hl5 hb6 hl5.size
      have H9 := Lib.hid (heap_alloc_new w5 (.cells #[.int .u32 0, .int .u32 0, .bool false, .string ⟨#[]⟩] 34))
      have H76 := Lib.hid (be_block l6 H7.out)
      have HC6 := Lib.hid (HC4.out.below l6)
      have HX6 := Lib.hid (HX4.out.below l6)
      have HRB6 := Lib.hid (HRB4.out.below l6)
      have HB6 := Lib.hid (ubelow_on HB4.out HW.out l6)
      clear hl5 hb6 l6 XR H7 HC4 HX4 HRB4 HB4
      generalize hw6 : w5.alloc (.cells #[.int .u32 0, .int .u32 0, .bool false, .string ⟨#[]⟩] 34) = w6 at *
      have HWW := Lib.hid hw6
      clear hw6
      go_upto_region 6 with fail
      rw [HWW.out]
      clear HWW
      generalize w5.heap.size = g9 at *
      have KS : Hid (∀ W, Below w6.heap.size w6 W → (W.cell? ⟨g7, 0, none⟩ = some (.int .u16 0) ∧ W.cell? ⟨g7, 1, none⟩ = some (.int .u16 0) ∧ W.cell? ⟨g7, 2, none⟩ = some (.bool false) ∧ W.cell? ⟨g7, 3, none⟩ = some (.slice none 0 0)) ∧ (W.cell? ⟨g9, 0, none⟩ = some (.int .u32 0) ∧ W.cell? ⟨g9, 1, none⟩ = some (.int .u32 0) ∧ W.cell? ⟨g9, 2, none⟩ = some (.bool false) ∧ W.cell? ⟨g9, 3, none⟩ = some (.string ⟨#[]⟩))) := fun W h => ⟨cells4 (be_block h H76.out), cells4 (be_block h H9.out)⟩
      have XT := Lib.hid (told_u HNO.out.num HNO.out.few (HC6.out.below (below_drew w6)) t HNO.out.said)
      have XO : Hid (∀ W : World, Calls Tryd.prog 12 #[.agg #[.int .u16 0, .int .u16 0, .bool false, .slice none 0 0]] W fun e w' => e = .returned (.agg #[.int .u32 0, .int .u32 0, .bool false, .string ⟨#[]⟩]) ∧ Below W.heap.size W w') := fun W => uof_any noDg ⟨by decide, by decide, by decide⟩ none 0 W (Rd.nil W)
      have heq : ∀ W, (Op.equalIn 10000 34 (.agg #[.int .u32 0, .int .u32 0, .bool false, .string ⟨#[]⟩]) (.agg #[.int .u32 0, .int .u32 0, .bool false, .string ⟨#[]⟩])).run Tryd.prog W = .ok true W := fun W => by
        have h := refDg_eqB noDg noDg W
        rw [dgB_same] at h
        exact h
      go_region_held_law (fun W => (W.cell? ⟨g7, 0, none⟩ = some (.int .u16 0) ∧ W.cell? ⟨g7, 1, none⟩ = some (.int .u16 0) ∧ W.cell? ⟨g7, 2, none⟩ = some (.bool false) ∧ W.cell? ⟨g7, 3, none⟩ = some (.slice none 0 0)) ∧ (W.cell? ⟨g9, 0, none⟩ = some (.int .u32 0) ∧ W.cell? ⟨g9, 1, none⟩ = some (.int .u32 0) ∧ W.cell? ⟨g9, 2, none⟩ = some (.bool false) ∧ W.cell? ⟨g9, 3, none⟩ = some (.string ⟨#[]⟩)))
        (first | assumption | exact KS.out _ HL8.out | exact KS.out _ HL7.out | exact KS.out _ (below_drew w6))
        (first
          | (go_at_call 11; (with_reducible refine XT.out.mono ?_); rintro e w7 ⟨rfl, hl⟩; (have HL7 := Lib.hid ((below_drew w6).trans hl)); clear hl)
          | (go_at_call 12; (with_reducible refine (XO.out _).mono ?_); rintro e w8 ⟨rfl, hl⟩; (have HL8 := Lib.hid (below_to HL7.out hl HL7.out.size)); clear hl))
      all_goals
        have H78 := Lib.hid (be_block HL8.out H76.out)
        have HX8 := Lib.hid (HX6.out.below HL8.out)
        have HRB8 := Lib.hid (HRB6.out.below HL8.out)
        have HB8 := Lib.hid (ubelow_on HB6.out HW.out HL8.out)
        clear HX6 HRB6 HB6 HC6 H76 H9 KS XT XO heq
        have k9 := (cells4 H78.out).2.2.2
        go_wp2_with fail
        refine wp_loop_rounds 1 ?_
        rw [rounds_succ]
        go_upto_region 12 with fail
        clear k9
        have i1 : 0 ≤ K1 := HKK.out.1
        have i2 : ¬ K1 < 0 := by omega
        have i3 : K1 ≤ (c1 : Int) := HKK.out.2.1
        have i4 : K1.toNat = q.b.length := HKK.out.2.2
        have hM1 := HM1.out
        have hmin1 := HMIN1.out
        have k3 := ((HX8.out.below (below_al (Below.refl _ _) (.cells #[] 5))).cells).2.2.2
        obtain ⟨g12, c12, W12, run12, mine12, _, _, _⟩ := (Mine.first (Below.refl w8.heap.size w8)).append q.b (.slice A1 q.b.length c1) ((HRQ.out.below (by rw [HW.out]; exact HB8.out)).below (below_al (Below.refl _ _) _)) (by have := HQI.out.b; simp; have := HFEW.out; omega)
        rw [List.nil_append] at run12 mine12
        have E12 := Lib.hid run12
        have HX12 := Lib.hid (HX8.out.below mine12.old)
        have HRB12 := Lib.hid (HRB8.out.below mine12.old)
        have HB12 := Lib.hid (ubelow_on HB8.out HW.out mine12.old)
        have HRQ12 := Lib.hid mine12.rd
        have HNQ : Hid (n < g12) := Nat.lt_of_lt_of_le HX8.out.lt mine12.new
        have k3' := HX12.out.cells.2.2.2
        have z3' := HX12.out.free 3
        clear run12 mine12 HX8 HRB8 HB8
        go_upto_region 13 with (at_builtin; refine wpList_append_eq rfl (.tmp 65) (.tmp 72) 22 rfl _ _ rfl rfl _ _ E12.out ?_)
        have HX13 : Hid (DgAt (W12.setCell ⟨n, 3, none⟩ (.slice (some ⟨g12, 0, none⟩) q.b.length c12)) n q (.slice (some ⟨g12, 0, none⟩) q.b.length c12)) := HX12.out.set3 _
        have HRB13 : Hid (Rd (W12.setCell ⟨n, 3, none⟩ (.slice (some ⟨g12, 0, none⟩) q.b.length c12)) (.slice (some ⟨g, 0, none⟩) ls.length c') ls) := rd_set HRB12.out (Nat.ne_of_gt HNG.out) _ _
        have HRQ13 : Hid (Rd (W12.setCell ⟨n, 3, none⟩ (.slice (some ⟨g12, 0, none⟩) q.b.length c12)) (.slice (some ⟨g12, 0, none⟩) q.b.length c12) q.b) := rd_set HRQ12.out (Nat.ne_of_gt HNQ.out) _ _
        have HB13 : Hid (Below n w (W12.setCell ⟨n, 3, none⟩ (.slice (some ⟨g12, 0, none⟩) q.b.length c12))) := HB12.out.setCell (p := ⟨n, 3, none⟩) (Nat.le_refl _) _
        clear i1 i2 i3 i4 hM1 hmin1 k3 k3' z3' E12 HX12 HRB12 HB12 HRQ12 HMIN1 HM1
        generalize W12.setCell ⟨n, 3, none⟩ (.slice (some ⟨g12, 0, none⟩) q.b.length c12) = w21 at *
        obtain ⟨k0, k1, k2, k3⟩ := HX13.out.cells
        go_wp2_with fail
        refine (uBytes_ok q HQI.out (by have := HQN.out; omega) (some ⟨g12, 0, none⟩) c12 n2 n3 w21 HRQ13.out).mono ?_
        rintro e w22 ⟨b22, rfl, _, hy22, hl22⟩
        have HV : Hid (Rd w22 (.slice (some ⟨b22, 0, none⟩) q.n q.n) (q.bs n2 n3)) := by
          have h := BAt.rd (show BAt w22 b22 (q.bs n2 n3) from hy22)
          rw [q.bs_len] at h
          exact h
        have HX22 := Lib.hid (HX13.out.below hl22)
        have HRQ22 := Lib.hid (HRQ13.out.below hl22)
        have HRB22 := Lib.hid (HRB13.out.below hl22)
        have HB22 := Lib.hid (ubelow_on HB13.out HW.out hl22)
        clear hy22 hl22 k0 k1 k2 k3 HX13 HRQ13 HRB13 HB13
        obtain ⟨k0, k1, k2, k3⟩ := HX22.out.cells
        go_wp2_with fail
        refine (uof_any q HQI.out (some ⟨g12, 0, none⟩) c12 w22 HRQ22.out).mono ?_
        rintro e w23 ⟨rfl, hl23⟩
        have HRB23 := Lib.hid (HRB22.out.below hl23)
        have HV23 := Lib.hid (HV.out.below hl23)
        have HB23 := Lib.hid (ubelow_on HB22.out HW.out hl23)
        clear hl23 k0 k1 k2 k3 HX22 HRQ22 HRB22 HB22 HV
        go_wp2_with fail
        refine (urefBytes_any q HQI.out (by have := HQN.out; omega) n2 n3 HNN.out.1 HNN.out.2 w23).mono ?_
        rintro e w24 ⟨rfl, hl24⟩
        have HB24 := Lib.hid (ubelow_on HB23.out HW.out hl24)
        have v1 := convert_rd (HRB23.out.below hl24)
        have v2 := convert_rd (HV23.out.below hl24)
        clear hl24 HRB23 HV23 HB23
        generalize txt ls = tl at *
        generalize txt (q.bs n2 n3) = tq at *
        generalize txt q.b = ub at *
        go_wp2_with fail
        refine (told_nil w24).mono ?_
        rintro e w25 ⟨rfl, rfl⟩
        go_wp2_with fail
        go_ret
        exact ⟨rfl, by rw [HW.out]; exact HB24.out⟩
  · as_aux_lemma =>
      have HAN := Lib.hid han
      have XP := Lib.hid (han.parse _ _ W2 HRB2.out)
      clear han
      unfold PDgTold at XP
      go_wp2_with fail
      refine XP.out.mono ?_
      rintro e w3 ⟨b3, rfl, hn3, hy3, hl3⟩
      have hb4 := below_al (Below.refl w3.heap.size w3) (.cells #[.int .u16 z.src, .int .u16 z.dst, .bool z.plain, .slice (some ⟨b3, 0, none⟩) z.b.length z.b.length] 25)
      have l4 := below_to hl3 hb4 hl3.size
      have H7 : Hid (DgAt (w3.alloc (.cells #[.int .u16 z.src, .int .u16 z.dst, .bool z.plain, .slice (some ⟨b3, 0, none⟩) z.b.length z.b.length] 25)) w3.heap.size z (.slice (some ⟨b3, 0, none⟩) z.b.length z.b.length)) := DgAt.new w3 z _
      have HY4 : Hid (BAt (w3.alloc (.cells #[.int .u16 z.src, .int .u16 z.dst, .bool z.plain, .slice (some ⟨b3, 0, none⟩) z.b.length z.b.length] 25)) b3 z.b) := be_block hb4 hy3
      have HX4 := Lib.hid (HX2.out.below l4)
      have HRB4 := Lib.hid (HRB2.out.below l4)
      have HB4 := Lib.hid (ubelow_on HB2.out HW.out l4)
      have HNB : Hid (n < b3 ∧ g < b3 ∧ b3 < w3.heap.size) := by
        have h1 := HX2.out.lt
        have h2 : g < W2.heap.size := HGL.out
        have h3 : b3 < w3.heap.size := (Array.getElem?_eq_some_iff.1 hy3).1
        exact ⟨by omega, by omega, h3⟩
      clear hn3 hy3 hl3 hb4 l4 XP HX2 HRB2 HB2
      generalize hw4 : w3.alloc (.cells #[.int .u16 z.src, .int .u16 z.dst, .bool z.plain, .slice (some ⟨b3, 0, none⟩) z.b.length z.b.length] 25) = w4 at *
      have HWW := Lib.hid hw4
      clear hw4
      go_upto_region 5 with fail
      rw [HWW.out]
      clear HWW
      have HNG7 : Hid (b3 < w3.heap.size) := HNB.out.2.2
      generalize w3.heap.size = g7 at *
      have XR := Lib.hid (HAN.out.ref w4)
      unfold ROk at XR
      go_wp2_with fail
      refine XR.out.mono ?_
      rintro e w5 ⟨rfl, hl5⟩
      have hb6 := below_al (Below.refl w5.heap.size w5) (.cells #[.int .u32 z.src, .int .u32 z.dst, .bool z.plain, .string (txt z.b)] 34)
      have l6 := below_to hl5 hb6 hl5.size
      have H9 := Lib.hid (heap_alloc_new w5 (.cells #[.int .u32 z.src, .int .u32 z.dst, .bool z.plain, .string (txt z.b)] 34))
      have H76 := Lib.hid (H7.out.below l6)
      have HY6 := Lib.hid (HY4.out.below l6)
      have HX6 := Lib.hid (HX4.out.below l6)
      have HRB6 := Lib.hid (HRB4.out.below l6)
      have HB6 := Lib.hid (ubelow_on HB4.out HW.out l6)
      clear hl5 hb6 l6 XR H7 HY4 HX4 HRB4 HB4
      generalize hw6 : w5.alloc (.cells #[.int .u32 z.src, .int .u32 z.dst, .bool z.plain, .string (txt z.b)] 34) = w6 at *
      have HWW := Lib.hid hw6
      clear hw6
      go_upto_region 6 with fail
      rw [HWW.out]
      clear HWW
      generalize w5.heap.size = g9 at *
      have KS : Hid (∀ W, Below w6.heap.size w6 W → (W.cell? ⟨g7, 0, none⟩ = some (.int .u16 z.src) ∧ W.cell? ⟨g7, 1, none⟩ = some (.int .u16 z.dst) ∧ W.cell? ⟨g7, 2, none⟩ = some (.bool z.plain) ∧ W.cell? ⟨g7, 3, none⟩ = some (.slice (some ⟨b3, 0, none⟩) z.b.length z.b.length)) ∧ (W.cell? ⟨g9, 0, none⟩ = some (.int .u32 z.src) ∧ W.cell? ⟨g9, 1, none⟩ = some (.int .u32 z.dst) ∧ W.cell? ⟨g9, 2, none⟩ = some (.bool z.plain) ∧ W.cell? ⟨g9, 3, none⟩ = some (.string (txt z.b)))) := fun W h => ⟨(H76.out.below h).cells, cells4 (be_block h H9.out)⟩
      have XO : Hid (∀ W : World, Below w6.heap.size w6 W → Calls Tryd.prog 12 #[.agg #[.int .u16 z.src, .int .u16 z.dst, .bool z.plain, .slice (some ⟨b3, 0, none⟩) z.b.length z.b.length]] W fun e w' => e = .returned (.agg #[.int .u32 z.src, .int .u32 z.dst, .bool z.plain, .string (txt z.b)]) ∧ Below W.heap.size W w') := fun W h => uof_any z HAN.out.inn (some ⟨b3, 0, none⟩) z.b.length W (HY6.out.below h).rd
      have heq : ∀ W, (Op.equalIn 10000 34 (.agg #[.int .u32 z.src, .int .u32 z.dst, .bool z.plain, .string (txt z.b)]) (.agg #[.int .u32 z.src, .int .u32 z.dst, .bool z.plain, .string (txt z.b)])).run Tryd.prog W = .ok true W := fun W => by
        have h := refDg_eqB z z W
        rw [dgB_same] at h
        exact h
      go_region_held_law (fun W => (W.cell? ⟨g7, 0, none⟩ = some (.int .u16 z.src) ∧ W.cell? ⟨g7, 1, none⟩ = some (.int .u16 z.dst) ∧ W.cell? ⟨g7, 2, none⟩ = some (.bool z.plain) ∧ W.cell? ⟨g7, 3, none⟩ = some (.slice (some ⟨b3, 0, none⟩) z.b.length z.b.length)) ∧ (W.cell? ⟨g9, 0, none⟩ = some (.int .u32 z.src) ∧ W.cell? ⟨g9, 1, none⟩ = some (.int .u32 z.dst) ∧ W.cell? ⟨g9, 2, none⟩ = some (.bool z.plain) ∧ W.cell? ⟨g9, 3, none⟩ = some (.string (txt z.b))))
        (first | assumption | exact KS.out _ HL8.out | exact KS.out _ (below_drew w6))
        (first
          | (go_at_call 11; (with_reducible refine (told_nil w6.drew).mono ?_); rintro e w7 ⟨rfl, rfl⟩)
          | (go_at_call 12; (with_reducible refine (XO.out w6.drew (below_drew w6)).mono ?_); rintro e w8 ⟨rfl, hl⟩; (have HL8 := Lib.hid ((below_drew w6).trans hl)); clear hl))
      all_goals
        have H78 := Lib.hid (H76.out.below HL8.out)
        have HY8 := Lib.hid (HY6.out.below HL8.out)
        have HX8 := Lib.hid (HX6.out.below HL8.out)
        have HRB8 := Lib.hid (HRB6.out.below HL8.out)
        have HB8 := Lib.hid (ubelow_on HB6.out HW.out HL8.out)
        clear HX6 HRB6 HB6 HY6 H76 H9 KS XO heq
        as_aux_lemma =>
          obtain ⟨L, hL⟩ : ∃ L, z.b.length = L := ⟨_, rfl⟩
          rw [hL] at H78
          simp only [hL]
          have HLL := Lib.hid hL
          clear hL
          go_wp2_with fail
          go_loopw [15] (fun i wr => ∃ k : Nat, k ≤ L ∧ i = .int .i64 (k : Int) ∧ Over6 b3 L w8 wr) (fun i _ => L - (intOf i).toNat)
          case atStart => exact ⟨0, Nat.zero_le _, rfl, ⟨z.b, HLL.out, HY8.out⟩, Fr.refl _ _⟩
          case round =>
            obtain ⟨k, hk, rfl, hwr⟩ := hrel
            have HWR := Lib.hid hwr
            have k9 := (hwr.dg H78.out (Nat.ne_of_gt HNG7.out)).cells.2.2.2
            by_cases hlt : k < L
            · have q1 : (k : Int) < (L : Int) := by omega
              have q3 : (L : Int) ≤ 3000 := by have := HAN.out.few; have := HLL.out; omega
              obtain ⟨l, hl, hr⟩ := hwr.row
              have kc := hr.cell k _ (List.getElem?_eq_getElem (by rw [hl]; exact hlt))
              have kz := hr.free k
              clear hr hwr
              go_wp2_with fail
              exact ⟨⟨k + 1, by omega, by go_num, HWR.out.set k 33⟩, by simp [intOf]; omega⟩
            · have q1 : ¬ (k : Int) < (L : Int) := by omega
              have q2 : decide ((k : Int) < (L : Int)) = false := decide_eq_false q1
              have HX9 := Lib.hid (hwr.dg HX8.out (Nat.ne_of_lt HNB.out.1))
              have HRB9 := Lib.hid (hwr.rd HRB8.out (Nat.ne_of_lt HNB.out.2.1))
              have HB9 := Lib.hid (hwr.old HB8.out (Nat.le_of_lt HNB.out.1) (by have := HB8.out.size; rw [HW.out] at this; exact this))
              clear hwr HX8 HRB8 HB8 HY8 H78
              go_upto_region 12 with fail
              clear k9 q1 q2
              have i1 : 0 ≤ K1 := HKK.out.1
              have i2 : ¬ K1 < 0 := by omega
              have i3 : K1 ≤ (c1 : Int) := HKK.out.2.1
              have i4 : K1.toNat = q.b.length := HKK.out.2.2
              have hM1 := HM1.out
              have hmin1 := HMIN1.out
              have k3 := ((HX9.out.below (below_al (Below.refl _ _) (.cells #[] 5))).cells).2.2.2
              obtain ⟨g12, c12, W12, run12, mine12, _, _, _⟩ := (Mine.first (Below.refl wr.heap.size wr)).append q.b (.slice A1 q.b.length c1) ((HRQ.out.below (by rw [HW.out]; exact HB9.out)).below (below_al (Below.refl _ _) _)) (by have := HQI.out.b; simp; have := HFEW.out; omega)
              rw [List.nil_append] at run12 mine12
              have E12 := Lib.hid run12
              have HX12 := Lib.hid (HX9.out.below mine12.old)
              have HRB12 := Lib.hid (HRB9.out.below mine12.old)
              have HB12 := Lib.hid (ubelow_on HB9.out HW.out mine12.old)
              have HRQ12 := Lib.hid mine12.rd
              have HNQ : Hid (n < g12) := Nat.lt_of_lt_of_le HX9.out.lt mine12.new
              have k3' := HX12.out.cells.2.2.2
              have z3' := HX12.out.free 3
              clear run12 mine12 HX9 HRB9 HB9
              go_upto_region 13 with (at_builtin; refine wpList_append_eq rfl (.tmp 65) (.tmp 72) 22 rfl _ _ rfl rfl _ _ E12.out ?_)
              have HX13 : Hid (DgAt (W12.setCell ⟨n, 3, none⟩ (.slice (some ⟨g12, 0, none⟩) q.b.length c12)) n q (.slice (some ⟨g12, 0, none⟩) q.b.length c12)) := HX12.out.set3 _
              have HRB13 : Hid (Rd (W12.setCell ⟨n, 3, none⟩ (.slice (some ⟨g12, 0, none⟩) q.b.length c12)) (.slice (some ⟨g, 0, none⟩) ls.length c') ls) := rd_set HRB12.out (Nat.ne_of_gt HNG.out) _ _
              have HRQ13 : Hid (Rd (W12.setCell ⟨n, 3, none⟩ (.slice (some ⟨g12, 0, none⟩) q.b.length c12)) (.slice (some ⟨g12, 0, none⟩) q.b.length c12) q.b) := rd_set HRQ12.out (Nat.ne_of_gt HNQ.out) _ _
              have HB13 : Hid (Below n w (W12.setCell ⟨n, 3, none⟩ (.slice (some ⟨g12, 0, none⟩) q.b.length c12))) := HB12.out.setCell (p := ⟨n, 3, none⟩) (Nat.le_refl _) _
              clear i1 i2 i3 i4 hM1 hmin1 k3 k3' z3' E12 HX12 HRB12 HB12 HRQ12 HMIN1 HM1
              generalize W12.setCell ⟨n, 3, none⟩ (.slice (some ⟨g12, 0, none⟩) q.b.length c12) = w21 at *
              obtain ⟨k0, k1, k2, k3⟩ := HX13.out.cells
              go_wp2_with fail
              refine (uBytes_ok q HQI.out (by have := HQN.out; omega) (some ⟨g12, 0, none⟩) c12 n2 n3 w21 HRQ13.out).mono ?_
              rintro e w22 ⟨b22, rfl, _, hy22, hl22⟩
              have HV : Hid (Rd w22 (.slice (some ⟨b22, 0, none⟩) q.n q.n) (q.bs n2 n3)) := by
                have h := BAt.rd (show BAt w22 b22 (q.bs n2 n3) from hy22)
                rw [q.bs_len] at h
                exact h
              have HX22 := Lib.hid (HX13.out.below hl22)
              have HRQ22 := Lib.hid (HRQ13.out.below hl22)
              have HRB22 := Lib.hid (HRB13.out.below hl22)
              have HB22 := Lib.hid (ubelow_on HB13.out HW.out hl22)
              clear hy22 hl22 k0 k1 k2 k3 HX13 HRQ13 HRB13 HB13
              obtain ⟨k0, k1, k2, k3⟩ := HX22.out.cells
              go_wp2_with fail
              refine (uof_any q HQI.out (some ⟨g12, 0, none⟩) c12 w22 HRQ22.out).mono ?_
              rintro e w23 ⟨rfl, hl23⟩
              have HRB23 := Lib.hid (HRB22.out.below hl23)
              have HV23 := Lib.hid (HV.out.below hl23)
              have HB23 := Lib.hid (ubelow_on HB22.out HW.out hl23)
              clear hl23 k0 k1 k2 k3 HX22 HRQ22 HRB22 HB22 HV
              go_wp2_with fail
              refine (urefBytes_any q HQI.out (by have := HQN.out; omega) n2 n3 HNN.out.1 HNN.out.2 w23).mono ?_
              rintro e w24 ⟨rfl, hl24⟩
              have HB24 := Lib.hid (ubelow_on HB23.out HW.out hl24)
              have v1 := convert_rd (HRB23.out.below hl24)
              have v2 := convert_rd (HV23.out.below hl24)
              clear hl24 HRB23 HV23 HB23
              generalize txt ls = tl at *
              generalize txt (q.bs n2 n3) = tq at *
              generalize txt q.b = ub at *
              go_wp2_with fail
              refine (told_nil w24).mono ?_
              rintro e w25 ⟨rfl, rfl⟩
              go_wp2_with fail
              go_ret
              exact ⟨rfl, by rw [HW.out]; exact HB24.out⟩
end Go.Proofs.YtikcnlcpbifobaaDoor
