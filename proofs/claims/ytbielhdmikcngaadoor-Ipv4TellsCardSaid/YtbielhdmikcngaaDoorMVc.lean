/-
  What is proved: what Parse and the document's Parse of layer 5 answer of one row of bytes, side by side.
  Conditions: at most three thousand bytes.
  What is proved: Ipv4Tells of the laws of layer 5 by contract.
  Conditions: errors.errorType holds the handle of the type error; the packet's numbers fit their types; the bytes' capacities are ints.
  What is proved: the row and the tied card of Ipv4Tells out of its function's contract.
  Conditions: the contract, handed in; the listed package-level variables start as the program's text lays them (the card ties them).
  What is proved: Ipv4Tells: for any bytes and any packet, the law returns true and leaves its arguments as they were (the tied card).
  Conditions: the listed package-level variables start as the program's text lays them (the card ties them).
-/
import Derived.Test.YtbielhdmikcngaaDoorMVb
import Derived.Test.YtbielhdmikcngaaDoorVLift
import Derived.Test.YtbielhdmikcngaaDoorCards
import Derived.Test.YtbielhdmikcngaaDoorTie
import Derived.SevenTiedAt
namespace Go.Proofs.YtbielhdmikcngaaDoor
open Go.RowKit

/-- What both Parses answer of bytes that are no packet. -/
structure NoIp (ls : List UInt8) (m : Nat) (k : List ByteArray) (t : ByteArray) : Prop where
  num : m < 14
  few : (text m k).size ≤ 1000000000
  said : text m k = t
  parse : ∀ (v : Value) (w : World), Rd w v ls → Calls Tryd.prog 6 #[v] w (VErr m k w)
  ref : ∀ w : World, Calls Tryd.prog 7 #[.string (txt ls)] w (RfErr t w)
/-- What both Parses answer of a packet's bytes. -/
structure AnIp (ls : List UInt8) (z : Ip) : Prop where
  own : z.Own
  good : z.bad = 0
  parse : ∀ (v : Value) (w : World), Rd w v ls → Calls Tryd.prog 6 #[v] w (InOk z w)
  ref : ∀ w : World, Calls Tryd.prog 7 #[.string (txt ls)] w (RfOk z w)
theorem noip_of (h : Hd) (hh : h.In) (r : List UInt8) (hr : r.length ≤ 2980) (n : Nat) (t : ByteArray) (hc : h.code r = n) (hn : n ≠ 0) (h14 : n < 14) (hf : (text n [ipWord]).size ≤ 1000000000) (ht : text n [ipWord] = t)
    (href : ∀ w : World, Calls Tryd.prog 7 #[.string (txt (h.bs ++ r))] w (RfErr t w)) : NoIp (h.bs ++ r) n [ipWord] t := by
  refine ⟨h14, hf, ht, fun v w hrd => (vParse_any h hh r v w hrd (by rw [List.length_append, Hd.bs_len]; omega)).mono ?_, href⟩
  rintro e w' (⟨_, x⟩ | ⟨x, _⟩)
  · rw [hc] at x
    exact x
  · exact absurd (hc.symm.trans x) hn
theorem code_wrong {h : Hd} {r : List UInt8} {n : Nat} (hw : h.wrong (20 + r.length) = n) (hn : n ≠ 0) : h.code r = n := by
  unfold Hd.code
  rw [hw, if_pos hn]
theorem ip_or_none (ls : List UInt8) (hL : ls.length ≤ 3000) : (∃ m k t, NoIp ls m k t) ∨ ∃ z, AnIp ls z := by
  by_cases hs : ls.length < 20
  · exact .inl ⟨2, [ipWord, octetsWord], _, by decide, by decide, by decide, fun v w hr => vParse_short ls v w hr hs, fun w => refParse_short ls hs w⟩
  · obtain ⟨h, r, hh, rfl⟩ := hd_split ls (by omega)
    rw [List.length_append, Hd.bs_len] at hL
    have hr : r.length ≤ 2980 := by omega
    by_cases h1 : h.first / 16 = 4
    · by_cases h2 : h.first % 16 < 5
      · refine .inl ⟨3, _, _, noip_of h hh r hr 3 _ (code_wrong ?_ (by decide)) (by decide) (by decide) (by decide) (by decide) (refParse_low h hh r hr h1 h2)⟩
        unfold Hd.wrong
        rw [if_neg (by omega), if_pos h2]
      · by_cases h3 : 5 < h.first % 16
        · refine .inl ⟨11, _, _, noip_of h hh r hr 11 _ (code_wrong ?_ (by decide)) (by decide) (by decide) (by decide) (by decide) (refParse_high h hh r hr h1 h3)⟩
          unfold Hd.wrong
          rw [if_neg (by omega), if_neg h2, if_pos h3]
        · have h4 : h.first % 16 = 5 := by omega
          by_cases h5 : h.size < 20
          · refine .inl ⟨3, _, _, noip_of h hh r hr 3 _ (code_wrong ?_ (by decide)) (by decide) (by decide) (by decide) (by decide) (refParse_small h hh r hr h1 h4 h5)⟩
            unfold Hd.wrong
            rw [if_neg (by omega), if_neg h2, if_neg h3, if_pos h5]
          · by_cases h6 : 20 + r.length < h.size
            · refine .inl ⟨2, _, _, noip_of h hh r hr 2 _ (code_wrong ?_ (by decide)) (by decide) (by decide) (by decide) (by decide) (refParse_long h hh r hr h1 h4 (by omega) h6)⟩
              unfold Hd.wrong
              rw [if_neg (by omega), if_neg h2, if_neg h3, if_neg h5, if_pos h6]
            · have hw : h.wrong (20 + r.length) = 0 := by
                unfold Hd.wrong
                rw [if_neg (by omega), if_neg h2, if_neg h3, if_neg h5, if_neg h6]
              by_cases h7 : ck h.bs ≠ 0
              · refine .inl ⟨4, _, _, noip_of h hh r hr 4 _ ?_ (by decide) (by decide) (by decide) (by decide) (refParse_sum h hh r hr h1 h4 (by omega) (by omega) h7)⟩
                unfold Hd.code
                rw [hw, if_neg (by decide), if_pos h7]
              · have h7' : ck h.bs = 0 := Decidable.not_not.1 h7
                have hq := refParse_rest h hh r hr h1 h4 (by omega) (by omega) h7'
                by_cases h8 : 32768 ≤ h.bits ∨ (h.ip (r.take (h.size - 20))).bad ≠ 0
                · refine .inl ⟨3, _, _, noip_of h hh r hr 3 ⟨#[105, 112, 118, 52, 58, 32, 101, 114, 114, 111, 114, 32, 51]⟩ ?_ (by decide) (by decide) (by decide) (by decide) fun w => (hq w).mono ?_⟩
                  · unfold Hd.code
                    rw [hw, if_neg (by decide), if_neg h7, if_pos h8]
                  · rintro e w' (⟨_, x⟩ | ⟨y1, y2, _⟩)
                    · exact x
                    · rcases h8 with h8 | h8
                      · omega
                      · exact absurd y2 h8
                · have hc : h.code r = 0 := by
                    unfold Hd.code
                    rw [hw, if_neg (by decide), if_neg h7, if_neg h8]
                  refine .inr ⟨_, ip_in hh (r.take (h.size - 20)) (by rw [List.length_take]; omega), (code_zero hc).2.2.2, fun v w hrd => ?_, fun w => (hq w).mono ?_⟩
                  · refine (vParse_any h hh r v w hrd (by rw [List.length_append, Hd.bs_len]; omega)).mono ?_
                    rintro e w' (⟨x, _⟩ | ⟨_, x⟩)
                    · exact absurd hc x
                    · exact x
                  · rintro e w' (⟨x, _⟩ | ⟨_, _, x⟩)
                    · exact absurd x h8
                    · exact x
    · refine .inl ⟨12, _, _, noip_of h hh r hr 12 _ (code_wrong ?_ (by decide)) (by decide) (by decide) (by decide) (by decide) (refParse_ver h hh r hr h1)⟩
      unfold Hd.wrong
      rw [if_pos h1]
end Go.Proofs.YtbielhdmikcngaaDoor
namespace Go.Proofs.YtbielhdmikcngaaDoor
open Go.RowKit

theorem noIp_inn : noIp.In := ⟨by decide, by decide, by decide, by decide, by decide, by decide, by decide, by decide⟩
theorem told_none (W : World) : Calls Tryd.prog 8 #[.nilIface] W fun e w' => e = .returned (.string ⟨#[]⟩) ∧ W = w' := by
  go_enter Tryd.func8, Tryd.ntmps8
  go_wp2_with fail
  go_ret
  exact ⟨rfl, rfl⟩
theorem bad_text {q : Ip} (h : q.bad ≠ 0) : q.bad < 14 ∧ (text q.bad [ipWord]).size ≤ 1000000000 ∧ text q.bad [ipWord] = ipTxt q.bad := by
  have h2 : q.bad = 1 ∨ q.bad = 7 := by
    unfold Ip.bad at h ⊢
    split
    · exact .inl rfl
    · split
      · exact .inr rfl
      · rename_i h3 h4
        rw [if_neg h3, if_neg h4] at h
        exact absurd rfl h
  rcases h2 with h2 | h2 <;> (rw [h2]; refine ⟨by decide, by decide, by decide⟩)
theorem below_row' {n : Nat} {w W : World} (h : Below n w W) (hn : w.heap.size = n) (cs : Array Value) : Below n w (W.setRow n cs) := by
  subst hn
  exact below_row h (Nat.le_refl _) cs
/-- Bytes written over in one block. -/
structure Over5 (b L : Nat) (W wr : World) : Prop where
  row : ∃ l : List UInt8, l.length = L ∧ BAt wr b l
  kept : Fr (fun a => a.block = b) W wr
theorem Over5.ip {b L : Nat} {W wr : World} (h : Over5 b L W wr) {G : Nat} {p : Ip} {v : Value} (hx : IpAt W G p v) (hne : G ≠ b) : IpAt wr G p v :=
  (h.kept.block G hx.lt (fun a ha => by subst ha; exact fun e => hne e.symm)).trans hx
theorem Over5.rd {b L : Nat} {W wr : World} (h : Over5 b L W wr) {G n c : Nat} {bs : List UInt8} (hx : Rd W (.slice (some ⟨G, 0, none⟩) n c) bs) (hne : G ≠ b) : Rd wr (.slice (some ⟨G, 0, none⟩) n c) bs := by
  obtain ⟨A, c', e, hc, hi⟩ := hx
  refine ⟨A, c', e, hc, fun h0 => ?_⟩
  obtain ⟨g', o, e1, hi⟩ := hi h0
  refine ⟨g', o, e1, fun j u hu => ?_⟩
  cases e
  cases e1
  have hq := hi j u hu
  exact (h.kept.cell _ (World.block_lt_of_cell? _ _ hq) hne).trans hq
theorem Over5.old {b L n : Nat} {w W wr : World} (h : Over5 b L W wr) (hb : Below n w W) (hn : n ≤ b) (hz : n ≤ W.heap.size) : Below n w wr := hb.trans (h.kept.below hz (fun x hx => by rw [hx]; exact hn))
theorem Over5.set {b L : Nat} {W wr : World} (h : Over5 b L W wr) (k : Nat) (x : UInt8) : Over5 b L W (wr.setCell ⟨b, k, none⟩ (B8 x)) := by
  obtain ⟨l, hl, hr⟩ := h.row
  exact ⟨⟨l.set k x, by rw [List.length_set]; exact hl, hr.set k x⟩, h.kept.set ⟨b, k, none⟩ _ rfl⟩
set_option maxRecDepth 100000 in
set_option maxHeartbeats 40000000 in
theorem ipv4Tells_any (A0 : Option Addr) (c0 : Nat) (l0 : List UInt8) (p1 : Ip) (A1 : Option Addr) (c1 : Nat) (w : World) (hg : Hdl w) (hr0 : Rd w (.slice A0 l0.length c0) l0) (hc0 : c0 ≤ 9223372036854775807)
    (hf1 : p1.Fit) (hr1 : Rd w (.slice A1 p1.b.length c1) p1.b) (hc1 : c1 ≤ 9223372036854775807) :
    Calls Tryd.prog 3 #[.slice A0 l0.length c0, p1.val (.slice A1 p1.b.length c1)] w fun e w' => e = .returned (.bool true) ∧ Below w.heap.size w w' := by
  have b1 := below_al (Below.refl w.heap.size w) (p1.obj (.slice A1 p1.b.length c1))
  have hlc0 := hr0.cap_le
  obtain ⟨ls, hls⟩ : ∃ ls, l0.take 3000 = ls := ⟨_, rfl⟩
  have HS := Lib.hid (vShown_any _ (hg.below b1))
  have HX0 := Lib.hid (IpAt.new w p1 (.slice A1 p1.b.length c1))
  have HB0 := Lib.hid b1
  have HF1 := Lib.hid hf1
  have HR1 := Lib.hid hr1
  have HC1 := Lib.hid hc1
  have HR0 : Hid (Rd w (.slice A0 ls.length c0) ls) := by rw [← hls]; exact front_any hr0 3000
  have hk1 : ls.length ≤ l0.length := by rw [← hls, List.length_take]; omega
  have hk2 : ls.length ≤ 3000 := by rw [← hls, List.length_take]; omega
  have hmin := fun W => min_run (P := Tryd.prog) #[3, 3] 3 (l0.length : Int) 3000 (ls.length : Int) (by rw [← hls, List.length_take]; omega) W
  have hi1 : (ls.length : Int) ≤ (l0.length : Int) := by omega
  have HK : Hid (ls.length ≤ 3000) := hk2
  clear hg b1 hr0 hf1 hr1 hc1 hls
  generalize l0.length = n0 at *
  have hmc : ls.length ≤ c0 := by omega
  have hmc2 : ¬ c0 < ls.length := by omega
  have hmc3 : (ls.length : Int) ≤ (c0 : Int) := by omega
  rw [Ip.val_lit]
  unfold Ip.obj at HS
  go_enter Tryd.func3, Tryd.ntmps3
  go_wp2_with fail
  refine HS.out.mono ?_
  rintro e w1 ⟨rfl, hl⟩
  have hx1 := HX0.out.below hl
  have hb1 := below_to HB0.out hl HB0.out.size
  obtain ⟨g, c', W2, run1, mine1, _, _, _⟩ := (Mine.first (Below.refl w1.heap.size w1)).append ls _ (HR0.out.below (below_al hb1 _)) (by simp; omega)
  rw [List.nil_append] at run1 mine1
  have E1 := Lib.hid run1
  have HX2 := Lib.hid (hx1.below mine1.old)
  have HRB2 := Lib.hid mine1.rd
  have hb2 := below_to hb1 mine1.old hb1.size
  have HGL := Lib.hid mine1.row.lt
  have hng : w.heap.size < g := Nat.lt_of_lt_of_le hx1.lt mine1.new
  have hsz : w.heap.size ≤ W2.heap.size := hb2.size
  generalize hn : w.heap.size = n at *
  have HW := Lib.hid hn
  have HB2 := Lib.hid hb2
  have HNG := Lib.hid hng
  clear HS hl HX0 HB0 HR0 hx1 hb1 run1 mine1 hb2 hng hn hsz
  go_upto_region 3 with (at_builtin; refine wpList_append_eq rfl (.tmp 17) (.tmp 22) 22 rfl _ _ rfl rfl _ _ E1.out ?_)
  clear E1 hmin hk1 hk2 hi1 hmc hmc2 hmc3
  have v0 := convert_rd HRB2.out
  go_upto_region 4 with fail
  clear v0
  rcases ip_or_none ls HK.out with ⟨m, k, t, hno⟩ | ⟨z, han⟩
  · as_aux_lemma =>
      have HNO := Lib.hid hno
      have XP := Lib.hid (hno.parse _ W2 HRB2.out)
      clear hno
      go_wp2_with fail
      refine XP.out.mono ?_
      rintro e w3 ⟨b3, he, hc3, hl3⟩
      have he' : e = .returned (.tuple #[.agg #[.int .u8 0, .int .u16 0, .bool false, .bool false, .int .i64 0, .int .u8 0, .int .u8 0, .int .u32 0, .int .u32 0, .slice none 0 0], .iface 75 (.pointer (some ⟨b3, 0, none⟩))]) := he
      subst he'
      have hb4 := below_al (Below.refl w3.heap.size w3) (.cells #[.int .u8 0, .int .u16 0, .bool false, .bool false, .int .i64 0, .int .u8 0, .int .u8 0, .int .u32 0, .int .u32 0, .slice none 0 0] 27)
      have l4 := below_to hl3 hb4 hl3.size
      have H7 := Lib.hid (heap_alloc_new w3 (.cells #[.int .u8 0, .int .u16 0, .bool false, .bool false, .int .i64 0, .int .u8 0, .int .u8 0, .int .u32 0, .int .u32 0, .slice none 0 0] 27))
      have HC4 := Lib.hid (hc3.below hb4)
      have HX4 := Lib.hid (HX2.out.below l4)
      have HRB4 := Lib.hid (HRB2.out.below l4)
      have HB4 := Lib.hid (ibelow_on HB2.out HW.out l4)
      clear he hc3 hl3 hb4 l4 XP HX2 HRB2 HB2
      go_upto_region 5 with fail
      generalize w3.alloc (.cells #[.int .u8 0, .int .u16 0, .bool false, .bool false, .int .i64 0, .int .u8 0, .int .u8 0, .int .u32 0, .int .u32 0, .slice none 0 0] 27) = w4 at *
      generalize w3.heap.size = g7 at *
      have XR := Lib.hid (HNO.out.ref w4)
      unfold RfErr at XR
      go_wp2_with fail
      refine XR.out.mono ?_
      rintro e w5 ⟨rfl, hl5⟩
      have hb6 := below_al (Below.refl w5.heap.size w5) (.cells #[.int .u32 0, .int .u32 0, .bool false, .bool false, .int .i64 0, .int .u32 0, .int .u32 0, .int .u32 0, .int .u32 0, .string ⟨#[]⟩] 34)
      have l6 := below_to hl5 hb6 hl5.size
      have H9 := Lib.hid (heap_alloc_new w5 (.cells #[.int .u32 0, .int .u32 0, .bool false, .bool false, .int .i64 0, .int .u32 0, .int .u32 0, .int .u32 0, .int .u32 0, .string ⟨#[]⟩] 34))
      have H76 := Lib.hid (be_block l6 H7.out)
      have HC6 := Lib.hid (HC4.out.below l6)
      have HX6 := Lib.hid (HX4.out.below l6)
      have HRB6 := Lib.hid (HRB4.out.below l6)
      have HB6 := Lib.hid (ibelow_on HB4.out HW.out l6)
      clear hl5 hb6 l6 XR H7 HC4 HX4 HRB4 HB4
      go_upto_region 6 with fail
      generalize w5.alloc (.cells #[.int .u32 0, .int .u32 0, .bool false, .bool false, .int .i64 0, .int .u32 0, .int .u32 0, .int .u32 0, .int .u32 0, .string ⟨#[]⟩] 34) = w6 at *
      generalize w5.heap.size = g9 at *
      have KS : Hid (∀ W, Below w6.heap.size w6 W → (W.cell? ⟨g7, 0, none⟩ = some (.int .u8 0) ∧ W.cell? ⟨g7, 1, none⟩ = some (.int .u16 0) ∧ W.cell? ⟨g7, 2, none⟩ = some (.bool false) ∧ W.cell? ⟨g7, 3, none⟩ = some (.bool false) ∧ W.cell? ⟨g7, 4, none⟩ = some (.int .i64 0) ∧ W.cell? ⟨g7, 5, none⟩ = some (.int .u8 0) ∧ W.cell? ⟨g7, 6, none⟩ = some (.int .u8 0) ∧ W.cell? ⟨g7, 7, none⟩ = some (.int .u32 0) ∧ W.cell? ⟨g7, 8, none⟩ = some (.int .u32 0) ∧ W.cell? ⟨g7, 9, none⟩ = some (.slice none 0 0)) ∧ (W.cell? ⟨g9, 0, none⟩ = some (.int .u32 0) ∧ W.cell? ⟨g9, 1, none⟩ = some (.int .u32 0) ∧ W.cell? ⟨g9, 2, none⟩ = some (.bool false) ∧ W.cell? ⟨g9, 3, none⟩ = some (.bool false) ∧ W.cell? ⟨g9, 4, none⟩ = some (.int .i64 0) ∧ W.cell? ⟨g9, 5, none⟩ = some (.int .u32 0) ∧ W.cell? ⟨g9, 6, none⟩ = some (.int .u32 0) ∧ W.cell? ⟨g9, 7, none⟩ = some (.int .u32 0) ∧ W.cell? ⟨g9, 8, none⟩ = some (.int .u32 0) ∧ W.cell? ⟨g9, 9, none⟩ = some (.string ⟨#[]⟩))) := fun W h => ⟨cells10 (be_block h H76.out), cells10 (be_block h H9.out)⟩
      have XT := Lib.hid (told_ip HNO.out.num HNO.out.few (HC6.out.below (below_drew w6)) t HNO.out.said)
      have XO : Hid (∀ W : World, Calls Tryd.prog 9 #[.agg #[.int .u8 0, .int .u16 0, .bool false, .bool false, .int .i64 0, .int .u8 0, .int .u8 0, .int .u32 0, .int .u32 0, .slice none 0 0]] W fun e w' => e = .returned (.agg #[.int .u32 0, .int .u32 0, .bool false, .bool false, .int .i64 0, .int .u32 0, .int .u32 0, .int .u32 0, .int .u32 0, .string ⟨#[]⟩]) ∧ Below W.heap.size W w') := fun W => vOf_any noIp noIp_inn none 0 W (Rd.nil W)
      have heq : ∀ W, (Op.equalIn 10000 34 (.agg #[.int .u32 0, .int .u32 0, .bool false, .bool false, .int .i64 0, .int .u32 0, .int .u32 0, .int .u32 0, .int .u32 0, .string ⟨#[]⟩]) (.agg #[.int .u32 0, .int .u32 0, .bool false, .bool false, .int .i64 0, .int .u32 0, .int .u32 0, .int .u32 0, .int .u32 0, .string ⟨#[]⟩])).run Tryd.prog W = .ok true W := fun W => by
        have h := refIp_eqB noIp noIp W
        rw [ipB_same] at h
        exact h
      go_region_held_law (fun W => (W.cell? ⟨g7, 0, none⟩ = some (.int .u8 0) ∧ W.cell? ⟨g7, 1, none⟩ = some (.int .u16 0) ∧ W.cell? ⟨g7, 2, none⟩ = some (.bool false) ∧ W.cell? ⟨g7, 3, none⟩ = some (.bool false) ∧ W.cell? ⟨g7, 4, none⟩ = some (.int .i64 0) ∧ W.cell? ⟨g7, 5, none⟩ = some (.int .u8 0) ∧ W.cell? ⟨g7, 6, none⟩ = some (.int .u8 0) ∧ W.cell? ⟨g7, 7, none⟩ = some (.int .u32 0) ∧ W.cell? ⟨g7, 8, none⟩ = some (.int .u32 0) ∧ W.cell? ⟨g7, 9, none⟩ = some (.slice none 0 0)) ∧ (W.cell? ⟨g9, 0, none⟩ = some (.int .u32 0) ∧ W.cell? ⟨g9, 1, none⟩ = some (.int .u32 0) ∧ W.cell? ⟨g9, 2, none⟩ = some (.bool false) ∧ W.cell? ⟨g9, 3, none⟩ = some (.bool false) ∧ W.cell? ⟨g9, 4, none⟩ = some (.int .i64 0) ∧ W.cell? ⟨g9, 5, none⟩ = some (.int .u32 0) ∧ W.cell? ⟨g9, 6, none⟩ = some (.int .u32 0) ∧ W.cell? ⟨g9, 7, none⟩ = some (.int .u32 0) ∧ W.cell? ⟨g9, 8, none⟩ = some (.int .u32 0) ∧ W.cell? ⟨g9, 9, none⟩ = some (.string ⟨#[]⟩)))
        (first | assumption | exact KS.out _ HL8.out | exact KS.out _ HL7.out | exact KS.out _ (below_drew w6))
        (first
          | (go_at_call 8; (with_reducible refine XT.out.mono ?_); rintro e w7 ⟨rfl, hl⟩; (have HL7 := Lib.hid ((below_drew w6).trans hl)); clear hl)
          | (go_at_call 9; (with_reducible refine (XO.out _).mono ?_); rintro e w8 ⟨rfl, hl⟩; (have HL8 := Lib.hid (below_to HL7.out hl HL7.out.size)); clear hl))
      all_goals
        have H78 := Lib.hid (be_block HL8.out H76.out)
        have HX8 := Lib.hid (HX6.out.below HL8.out)
        have HRB8 := Lib.hid (HRB6.out.below HL8.out)
        have HB8 := Lib.hid (ibelow_on HB6.out HW.out HL8.out)
        clear HX6 HRB6 HB6 HC6 H76 H9 KS XT XO heq
        have k9 := (cells10 H78.out).2.2.2.2.2.2.2.2.2
        go_wp2_with fail
        refine wp_loop_rounds 1 ?_
        rw [rounds_succ]
        go_upto_region 12 with fail
        clear k9
        obtain ⟨d0, d1, d2, d3, d4, d5, d6, d7, d8, d9⟩ := HX8.out.cells
        go_wp2_with fail
        refine (few_lit p1 A1 c1 w8 HF1.out (HR1.out.below (by rw [HW.out]; exact HB8.out)) HC1.out).mono ?_
        rintro e w20 ⟨q, gq, kq, hq, rfl, hrq, hgg, hl20⟩
        have HQ := Lib.hid hq
        have HX20 := Lib.hid (HX8.out.below hl20)
        have HRQ20 := Lib.hid hrq
        have HRB20 := Lib.hid (HRB8.out.below hl20)
        have HB20 := Lib.hid (ibelow_on HB8.out HW.out hl20)
        have HNQ : Hid (n < gq) := Nat.lt_of_lt_of_le HX8.out.lt hgg
        clear hq hrq hgg hl20 d0 d1 d2 d3 d4 d5 d6 d7 d8 d9 HX8 HRB8 HB8 HR1 HF1 HC1
        go_upto_region 13 with (refine wpList_store_row rfl 27 (.tmp 3) (.tmp 58) rfl n #[.int .u8 q.tos, .int .u16 q.id, .bool q.df, .bool q.mf, .int .i64 q.off, .int .u8 q.ttl, .int .u8 q.proto, .int .u32 q.src, .int .u32 q.dst, .slice (some ⟨gq, 0, none⟩) q.b.length kq] rfl rfl 27 _ HX20.out ipSize rfl (ipLit_one q _ _ _) ?_)
        have HX21 := Lib.hid (HX20.out.store q (.slice (some ⟨gq, 0, none⟩) q.b.length kq))
        have HRQ21 := Lib.hid (rd_row HRQ20.out (g := n) (by have := HNQ.out; omega) #[.int .u8 q.tos, .int .u16 q.id, .bool q.df, .bool q.mf, .int .i64 q.off, .int .u8 q.ttl, .int .u8 q.proto, .int .u32 q.src, .int .u32 q.dst, .slice (some ⟨gq, 0, none⟩) q.b.length kq])
        have HRB21 := Lib.hid (rd_row HRB20.out (g := n) (by have := HNG.out; omega) #[.int .u8 q.tos, .int .u16 q.id, .bool q.df, .bool q.mf, .int .i64 q.off, .int .u8 q.ttl, .int .u8 q.proto, .int .u32 q.src, .int .u32 q.dst, .slice (some ⟨gq, 0, none⟩) q.b.length kq])
        have HB21 := Lib.hid (below_row' HB20.out HW.out #[.int .u8 q.tos, .int .u16 q.id, .bool q.df, .bool q.mf, .int .i64 q.off, .int .u8 q.ttl, .int .u8 q.proto, .int .u32 q.src, .int .u32 q.dst, .slice (some ⟨gq, 0, none⟩) q.b.length kq])
        clear HX20 HRQ20 HRB20 HB20
        generalize w20.setRow n #[.int .u8 q.tos, .int .u16 q.id, .bool q.df, .bool q.mf, .int .i64 q.off, .int .u8 q.ttl, .int .u8 q.proto, .int .u32 q.src, .int .u32 q.dst, .slice (some ⟨gq, 0, none⟩) q.b.length kq] = w21 at *
        obtain ⟨d0, d1, d2, d3, d4, d5, d6, d7, d8, d9⟩ := HX21.out.cells
        by_cases hbad : q.bad = 0
        · as_aux_lemma =>
            have HBAD := Lib.hid hbad
            obtain ⟨M, hM⟩ : ∃ M, q.bs.length = M := ⟨_, rfl⟩
            have X := bytes_ok q HQ.out hbad (some ⟨gq, 0, none⟩) kq w21 HRQ21.out
            rw [hM] at X
            have HBX := Lib.hid X
            have HMM := Lib.hid hM
            clear X hM hbad
            go_wp2_with fail
            refine HBX.out.mono ?_
            rintro e w22 ⟨b22, rfl, _, hy22, hl22⟩
            have HV : Hid (Rd w22 (.slice (some ⟨b22, 0, none⟩) M M) q.bs) := by
              have h := hy22.rd
              rw [HMM.out] at h
              exact h
            clear hy22
            have HX22 := Lib.hid (HX21.out.below hl22)
            have HRQ22 := Lib.hid (HRQ21.out.below hl22)
            have HRB22 := Lib.hid (HRB21.out.below hl22)
            have HB22 := Lib.hid (ibelow_on HB21.out HW.out hl22)
            clear hl22 d0 d1 d2 d3 d4 d5 d6 d7 d8 d9 HX21 HRQ21 HRB21 HB21 HBX
            obtain ⟨d0, d1, d2, d3, d4, d5, d6, d7, d8, d9⟩ := HX22.out.cells
            have XO := Lib.hid (vOf_lit q HQ.out.inn (some ⟨gq, 0, none⟩) kq w22 HRQ22.out)
            go_wp2_with fail
            refine XO.out.mono ?_
            rintro e w23 ⟨rfl, hl23⟩
            have HX23 := Lib.hid (HX22.out.below hl23)
            have HRB23 := Lib.hid (HRB22.out.below hl23)
            have HB23 := Lib.hid (ibelow_on HB22.out HW.out hl23)
            have HV23 := Lib.hid (HV.out.below hl23)
            clear hl23 d0 d1 d2 d3 d4 d5 d6 d7 d8 d9 HX22 HRQ22 HRB22 HB22 XO HV
            have XB := Lib.hid (refBytes_ok q HQ.out HBAD.out w23)
            go_wp2_with fail
            refine XB.out.mono ?_
            rintro e w24 ⟨rfl, hl24⟩
            have HX24 := Lib.hid (HX23.out.below hl24)
            have HB24 := Lib.hid (ibelow_on HB23.out HW.out hl24)
            have v1 := convert_rd (HRB23.out.below hl24)
            have v2 := convert_rd (HV23.out.below hl24)
            clear hl24 XB HX23 HRB23 HB23 HV23
            generalize txt ls = tl at *
            generalize txt q.bs = tq at *
            go_wp2_with fail
            refine (told_none w24).mono ?_
            rintro e w25 ⟨rfl, rfl⟩
            clear v1 v2
            obtain ⟨d0, d1, d2, d3, d4, d5, d6, d7, d8, d9⟩ := HX24.out.cells
            go_wp2_with fail
            refine (right_own q HQ.out (some ⟨gq, 0, none⟩) kq w24).mono ?_
            rintro e w26 ht
            obtain ⟨rfl, hl26⟩ := ht.good HBAD.out
            have HB26 := Lib.hid (ibelow_on HB24.out HW.out hl26)
            clear ht hl26 d0 d1 d2 d3 d4 d5 d6 d7 d8 d9 HX24 HB24
            go_wp2_with fail
            refine (told_none w26).mono ?_
            rintro e w27 ⟨rfl, rfl⟩
            go_wp2_with fail
            go_ret
            exact ⟨rfl, by rw [HW.out]; exact HB26.out⟩
        · as_aux_lemma =>
            have HBAD := Lib.hid hbad
            have HBX := Lib.hid (bytes_bad q HQ.out hbad (some ⟨gq, 0, none⟩) kq w21)
            clear hbad
            go_wp2_with fail
            refine HBX.out.mono ?_
            rintro e w22 ⟨b22, rfl, hc22, hl22⟩
            have HC22 := Lib.hid hc22
            clear hc22
            have HX22 := Lib.hid (HX21.out.below hl22)
            have HRQ22 := Lib.hid (HRQ21.out.below hl22)
            have HRB22 := Lib.hid (HRB21.out.below hl22)
            have HB22 := Lib.hid (ibelow_on HB21.out HW.out hl22)
            clear hl22 d0 d1 d2 d3 d4 d5 d6 d7 d8 d9 HX21 HRQ21 HRB21 HB21 HBX
            obtain ⟨d0, d1, d2, d3, d4, d5, d6, d7, d8, d9⟩ := HX22.out.cells
            have XO := Lib.hid (vOf_lit q HQ.out.inn (some ⟨gq, 0, none⟩) kq w22 HRQ22.out)
            go_wp2_with fail
            refine XO.out.mono ?_
            rintro e w23 ⟨rfl, hl23⟩
            have HX23 := Lib.hid (HX22.out.below hl23)
            have HRB23 := Lib.hid (HRB22.out.below hl23)
            have HB23 := Lib.hid (ibelow_on HB22.out HW.out hl23)
            have HC23 := Lib.hid (HC22.out.below hl23)
            clear hl23 d0 d1 d2 d3 d4 d5 d6 d7 d8 d9 HX22 HRQ22 HRB22 HB22 XO HC22
            have XB := Lib.hid (refBytes_bad q HQ.out HBAD.out w23)
            go_wp2_with fail
            refine XB.out.mono ?_
            rintro e w24 ⟨rfl, hl24⟩
            have HX24 := Lib.hid (HX23.out.below hl24)
            have HB24 := Lib.hid (ibelow_on HB23.out HW.out hl24)
            have v1 := convert_rd (HRB23.out.below hl24)
            have HC24 := Lib.hid (HC23.out.below hl24)
            have v2 : (convert 22 9 (.slice none 0 0)).run Tryd.prog w24 = .ok (.string ⟨#[]⟩) w24 := convert_rd (Rd.nil w24)
            clear hl24 XB HX23 HRB23 HB23 HC23
            generalize txt ls = tl at *
            have HTX := Lib.hid (bad_text HBAD.out)
            generalize hit : ipTxt q.bad = it at *
            have HIT := Lib.hid hit
            clear hit
            go_wp2_with fail
            refine (told_ip HTX.out.1 HTX.out.2.1 HC24.out it HTX.out.2.2).mono ?_
            rintro e w25 ⟨rfl, hl25⟩
            have HX25 := Lib.hid (HX24.out.below hl25)
            have HB25 := Lib.hid (ibelow_on HB24.out HW.out hl25)
            clear v1 v2 hl25 HX24 HB24 HC24
            obtain ⟨d0, d1, d2, d3, d4, d5, d6, d7, d8, d9⟩ := HX25.out.cells
            go_wp2_with fail
            refine (right_own q HQ.out (some ⟨gq, 0, none⟩) kq w25).mono ?_
            rintro e w26 ht
            obtain ⟨b26, rfl, hc26, hl26⟩ := ht.bad HBAD.out
            have HB26 := Lib.hid (ibelow_on HB25.out HW.out hl26)
            have HC26 := Lib.hid hc26
            clear ht hc26 hl26 d0 d1 d2 d3 d4 d5 d6 d7 d8 d9 HX25 HB25
            go_wp2_with fail
            refine (told_ip HTX.out.1 HTX.out.2.1 HC26.out it HTX.out.2.2).mono ?_
            rintro e w27 ⟨rfl, hl27⟩
            have HB27 := Lib.hid (ibelow_on HB26.out HW.out hl27)
            clear hl27 HB26
            go_wp2_with fail
            go_ret
            exact ⟨rfl, by rw [HW.out]; exact HB27.out⟩
  · as_aux_lemma =>
      have HAN := Lib.hid han
      have XP := Lib.hid (han.parse _ W2 HRB2.out)
      clear han
      go_wp2_with fail
      refine XP.out.mono ?_
      rintro e w3 ⟨b3, he, hn3, hy3, hl3⟩
      have he' : e = .returned (.tuple #[.agg #[.int .u8 z.tos, .int .u16 z.id, .bool z.df, .bool z.mf, .int .i64 z.off, .int .u8 z.ttl, .int .u8 z.proto, .int .u32 z.src, .int .u32 z.dst, .slice (some ⟨b3, 0, none⟩) z.b.length z.b.length], .nilIface]) := he
      subst he'
      have hb4 := below_al (Below.refl w3.heap.size w3) (.cells #[.int .u8 z.tos, .int .u16 z.id, .bool z.df, .bool z.mf, .int .i64 z.off, .int .u8 z.ttl, .int .u8 z.proto, .int .u32 z.src, .int .u32 z.dst, .slice (some ⟨b3, 0, none⟩) z.b.length z.b.length] 27)
      have l4 := below_to hl3 hb4 hl3.size
      have H7 : Hid (IpAt (w3.alloc (.cells #[.int .u8 z.tos, .int .u16 z.id, .bool z.df, .bool z.mf, .int .i64 z.off, .int .u8 z.ttl, .int .u8 z.proto, .int .u32 z.src, .int .u32 z.dst, .slice (some ⟨b3, 0, none⟩) z.b.length z.b.length] 27)) w3.heap.size z (.slice (some ⟨b3, 0, none⟩) z.b.length z.b.length)) := IpAt.new w3 z _
      have HY4 : Hid (BAt (w3.alloc (.cells #[.int .u8 z.tos, .int .u16 z.id, .bool z.df, .bool z.mf, .int .i64 z.off, .int .u8 z.ttl, .int .u8 z.proto, .int .u32 z.src, .int .u32 z.dst, .slice (some ⟨b3, 0, none⟩) z.b.length z.b.length] 27)) b3 z.b) := be_block hb4 hy3
      have HX4 := Lib.hid (HX2.out.below l4)
      have HRB4 := Lib.hid (HRB2.out.below l4)
      have HB4 := Lib.hid (ibelow_on HB2.out HW.out l4)
      have HNB : Hid (n < b3 ∧ g < b3 ∧ b3 < w3.heap.size) := by
        have h1 := HX2.out.lt
        have h2 : g < W2.heap.size := HGL.out
        have h3 : b3 < w3.heap.size := (Array.getElem?_eq_some_iff.1 hy3).1
        exact ⟨by omega, by omega, h3⟩
      clear he hn3 hy3 hl3 hb4 l4 XP HX2 HRB2 HB2
      go_upto_region 5 with fail
      have HNG7 : Hid (b3 < w3.heap.size) := HNB.out.2.2
      generalize w3.alloc (.cells #[.int .u8 z.tos, .int .u16 z.id, .bool z.df, .bool z.mf, .int .i64 z.off, .int .u8 z.ttl, .int .u8 z.proto, .int .u32 z.src, .int .u32 z.dst, .slice (some ⟨b3, 0, none⟩) z.b.length z.b.length] 27) = w4 at *
      generalize w3.heap.size = g7 at *
      have XR := Lib.hid (HAN.out.ref w4)
      unfold RfOk at XR
      go_wp2_with fail
      refine XR.out.mono ?_
      rintro e w5 ⟨rfl, hl5⟩
      have hb6 := below_al (Below.refl w5.heap.size w5) (.cells #[.int .u32 z.tos, .int .u32 z.id, .bool z.df, .bool z.mf, .int .i64 z.off, .int .u32 z.ttl, .int .u32 z.proto, .int .u32 z.src, .int .u32 z.dst, .string (txt z.b)] 34)
      have l6 := below_to hl5 hb6 hl5.size
      have H9 : Hid (RfAt (w5.alloc (.cells #[.int .u32 z.tos, .int .u32 z.id, .bool z.df, .bool z.mf, .int .i64 z.off, .int .u32 z.ttl, .int .u32 z.proto, .int .u32 z.src, .int .u32 z.dst, .string (txt z.b)] 34)) w5.heap.size z) := heap_alloc_new w5 _
      have H76 := Lib.hid (H7.out.below l6)
      have HY6 := Lib.hid (HY4.out.below l6)
      have HX6 := Lib.hid (HX4.out.below l6)
      have HRB6 := Lib.hid (HRB4.out.below l6)
      have HB6 := Lib.hid (ibelow_on HB4.out HW.out l6)
      clear hl5 hb6 l6 XR H7 HY4 HX4 HRB4 HB4
      go_upto_region 6 with fail
      generalize w5.alloc (.cells #[.int .u32 z.tos, .int .u32 z.id, .bool z.df, .bool z.mf, .int .i64 z.off, .int .u32 z.ttl, .int .u32 z.proto, .int .u32 z.src, .int .u32 z.dst, .string (txt z.b)] 34) = w6 at *
      generalize w5.heap.size = g9 at *
      have KS : Hid (∀ W, Below w6.heap.size w6 W → (W.cell? ⟨g7, 0, none⟩ = some (.int .u8 z.tos) ∧ W.cell? ⟨g7, 1, none⟩ = some (.int .u16 z.id) ∧ W.cell? ⟨g7, 2, none⟩ = some (.bool z.df) ∧ W.cell? ⟨g7, 3, none⟩ = some (.bool z.mf) ∧ W.cell? ⟨g7, 4, none⟩ = some (.int .i64 z.off) ∧ W.cell? ⟨g7, 5, none⟩ = some (.int .u8 z.ttl) ∧ W.cell? ⟨g7, 6, none⟩ = some (.int .u8 z.proto) ∧ W.cell? ⟨g7, 7, none⟩ = some (.int .u32 z.src) ∧ W.cell? ⟨g7, 8, none⟩ = some (.int .u32 z.dst) ∧ W.cell? ⟨g7, 9, none⟩ = some (.slice (some ⟨b3, 0, none⟩) z.b.length z.b.length)) ∧ (W.cell? ⟨g9, 0, none⟩ = some (.int .u32 z.tos) ∧ W.cell? ⟨g9, 1, none⟩ = some (.int .u32 z.id) ∧ W.cell? ⟨g9, 2, none⟩ = some (.bool z.df) ∧ W.cell? ⟨g9, 3, none⟩ = some (.bool z.mf) ∧ W.cell? ⟨g9, 4, none⟩ = some (.int .i64 z.off) ∧ W.cell? ⟨g9, 5, none⟩ = some (.int .u32 z.ttl) ∧ W.cell? ⟨g9, 6, none⟩ = some (.int .u32 z.proto) ∧ W.cell? ⟨g9, 7, none⟩ = some (.int .u32 z.src) ∧ W.cell? ⟨g9, 8, none⟩ = some (.int .u32 z.dst) ∧ W.cell? ⟨g9, 9, none⟩ = some (.string (txt z.b)))) := fun W h => ⟨(H76.out.below h).cells, (H9.out.below h).cells⟩
      have XO : Hid (∀ W : World, Below w6.heap.size w6 W → Calls Tryd.prog 9 #[.agg #[.int .u8 z.tos, .int .u16 z.id, .bool z.df, .bool z.mf, .int .i64 z.off, .int .u8 z.ttl, .int .u8 z.proto, .int .u32 z.src, .int .u32 z.dst, .slice (some ⟨b3, 0, none⟩) z.b.length z.b.length]] W fun e w' => e = .returned (.agg #[.int .u32 z.tos, .int .u32 z.id, .bool z.df, .bool z.mf, .int .i64 z.off, .int .u32 z.ttl, .int .u32 z.proto, .int .u32 z.src, .int .u32 z.dst, .string (txt z.b)]) ∧ Below W.heap.size W w') := fun W h => vOf_lit z HAN.out.own.inn (some ⟨b3, 0, none⟩) z.b.length W (HY6.out.below h).rd
      have heq : ∀ W, (Op.equalIn 10000 34 (.agg #[.int .u32 z.tos, .int .u32 z.id, .bool z.df, .bool z.mf, .int .i64 z.off, .int .u32 z.ttl, .int .u32 z.proto, .int .u32 z.src, .int .u32 z.dst, .string (txt z.b)]) (.agg #[.int .u32 z.tos, .int .u32 z.id, .bool z.df, .bool z.mf, .int .i64 z.off, .int .u32 z.ttl, .int .u32 z.proto, .int .u32 z.src, .int .u32 z.dst, .string (txt z.b)])).run Tryd.prog W = .ok true W := fun W => by
        have h := refIp_eqB z z W
        rw [ipB_same] at h
        exact h
      go_region_held_law (fun W => (W.cell? ⟨g7, 0, none⟩ = some (.int .u8 z.tos) ∧ W.cell? ⟨g7, 1, none⟩ = some (.int .u16 z.id) ∧ W.cell? ⟨g7, 2, none⟩ = some (.bool z.df) ∧ W.cell? ⟨g7, 3, none⟩ = some (.bool z.mf) ∧ W.cell? ⟨g7, 4, none⟩ = some (.int .i64 z.off) ∧ W.cell? ⟨g7, 5, none⟩ = some (.int .u8 z.ttl) ∧ W.cell? ⟨g7, 6, none⟩ = some (.int .u8 z.proto) ∧ W.cell? ⟨g7, 7, none⟩ = some (.int .u32 z.src) ∧ W.cell? ⟨g7, 8, none⟩ = some (.int .u32 z.dst) ∧ W.cell? ⟨g7, 9, none⟩ = some (.slice (some ⟨b3, 0, none⟩) z.b.length z.b.length)) ∧ (W.cell? ⟨g9, 0, none⟩ = some (.int .u32 z.tos) ∧ W.cell? ⟨g9, 1, none⟩ = some (.int .u32 z.id) ∧ W.cell? ⟨g9, 2, none⟩ = some (.bool z.df) ∧ W.cell? ⟨g9, 3, none⟩ = some (.bool z.mf) ∧ W.cell? ⟨g9, 4, none⟩ = some (.int .i64 z.off) ∧ W.cell? ⟨g9, 5, none⟩ = some (.int .u32 z.ttl) ∧ W.cell? ⟨g9, 6, none⟩ = some (.int .u32 z.proto) ∧ W.cell? ⟨g9, 7, none⟩ = some (.int .u32 z.src) ∧ W.cell? ⟨g9, 8, none⟩ = some (.int .u32 z.dst) ∧ W.cell? ⟨g9, 9, none⟩ = some (.string (txt z.b))))
        (first | assumption | exact KS.out _ HL8.out | exact KS.out _ (below_drew w6))
        (first
          | (go_at_call 8; (with_reducible refine (told_none w6.drew).mono ?_); rintro e w7 ⟨rfl, rfl⟩)
          | (go_at_call 9; (with_reducible refine (XO.out w6.drew (below_drew w6)).mono ?_); rintro e w8 ⟨rfl, hl⟩; (have HL8 := Lib.hid ((below_drew w6).trans hl)); clear hl))
      all_goals
        have H78 := Lib.hid (H76.out.below HL8.out)
        have HY8 := Lib.hid (HY6.out.below HL8.out)
        have HX8 := Lib.hid (HX6.out.below HL8.out)
        have HRB8 := Lib.hid (HRB6.out.below HL8.out)
        have HB8 := Lib.hid (ibelow_on HB6.out HW.out HL8.out)
        clear HX6 HRB6 HB6 HY6 H76 H9 KS XO heq
        as_aux_lemma =>
          obtain ⟨L, hL⟩ : ∃ L, z.b.length = L := ⟨_, rfl⟩
          rw [hL] at H78
          simp only [hL]
          have HLL := Lib.hid hL
          clear hL
          go_wp2_with fail
          go_loopw [11] (fun i wr => ∃ k : Nat, k ≤ L ∧ i = .int .i64 (k : Int) ∧ Over5 b3 L w8 wr) (fun i _ => L - (intOf i).toNat)
          case atStart => exact ⟨0, Nat.zero_le _, rfl, ⟨z.b, HLL.out, HY8.out⟩, Fr.refl _ _⟩
          case round =>
            obtain ⟨k, hk, rfl, hwr⟩ := hrel
            have HWR := Lib.hid hwr
            have k9 := (hwr.ip H78.out (Nat.ne_of_gt HNG7.out)).cells.2.2.2.2.2.2.2.2.2
            by_cases hlt : k < L
            · have q1 : (k : Int) < (L : Int) := by omega
              have q3 : (L : Int) ≤ 3000 := by have := HAN.out.own.few; have := HLL.out; omega
              obtain ⟨l, hl, hr⟩ := hwr.row
              have kc := hr.cell k _ (List.getElem?_eq_getElem (by rw [hl]; exact hlt))
              have kz := hr.free k
              clear hr hwr
              go_wp2_with fail
              exact ⟨⟨k + 1, by omega, by go_num, HWR.out.set k 33⟩, by simp [intOf]; omega⟩
            · have q1 : ¬ (k : Int) < (L : Int) := by omega
              have q2 : decide ((k : Int) < (L : Int)) = false := decide_eq_false q1
              have HX9 := Lib.hid (hwr.ip HX8.out (Nat.ne_of_lt HNB.out.1))
              have HRB9 := Lib.hid (hwr.rd HRB8.out (Nat.ne_of_lt HNB.out.2.1))
              have HB9 := Lib.hid (hwr.old HB8.out (Nat.le_of_lt HNB.out.1) (by have := HB8.out.size; rw [HW.out] at this; exact this))
              clear hwr HX8 HRB8 HB8 HY8 H78
              go_upto_region 12 with fail
              clear k9 q1 q2
              obtain ⟨d0, d1, d2, d3, d4, d5, d6, d7, d8, d9⟩ := HX9.out.cells
              go_wp2_with fail
              refine (few_lit p1 A1 c1 wr HF1.out (HR1.out.below (by rw [HW.out]; exact HB9.out)) HC1.out).mono ?_
              rintro e w20 ⟨q, gq, kq, hq, rfl, hrq, hgg, hl20⟩
              have HQ := Lib.hid hq
              have HX20 := Lib.hid (HX9.out.below hl20)
              have HRQ20 := Lib.hid hrq
              have HRB20 := Lib.hid (HRB9.out.below hl20)
              have HB20 := Lib.hid (ibelow_on HB9.out HW.out hl20)
              have HNQ : Hid (n < gq) := Nat.lt_of_lt_of_le HX9.out.lt hgg
              clear hq hrq hgg hl20 d0 d1 d2 d3 d4 d5 d6 d7 d8 d9 HX9 HRB9 HB9 HR1 HF1 HC1
              go_upto_region 13 with (refine wpList_store_row rfl 27 (.tmp 3) (.tmp 58) rfl n #[.int .u8 q.tos, .int .u16 q.id, .bool q.df, .bool q.mf, .int .i64 q.off, .int .u8 q.ttl, .int .u8 q.proto, .int .u32 q.src, .int .u32 q.dst, .slice (some ⟨gq, 0, none⟩) q.b.length kq] rfl rfl 27 _ HX20.out ipSize rfl (ipLit_one q _ _ _) ?_)
              have HX21 := Lib.hid (HX20.out.store q (.slice (some ⟨gq, 0, none⟩) q.b.length kq))
              have HRQ21 := Lib.hid (rd_row HRQ20.out (g := n) (by have := HNQ.out; omega) #[.int .u8 q.tos, .int .u16 q.id, .bool q.df, .bool q.mf, .int .i64 q.off, .int .u8 q.ttl, .int .u8 q.proto, .int .u32 q.src, .int .u32 q.dst, .slice (some ⟨gq, 0, none⟩) q.b.length kq])
              have HRB21 := Lib.hid (rd_row HRB20.out (g := n) (by have := HNG.out; omega) #[.int .u8 q.tos, .int .u16 q.id, .bool q.df, .bool q.mf, .int .i64 q.off, .int .u8 q.ttl, .int .u8 q.proto, .int .u32 q.src, .int .u32 q.dst, .slice (some ⟨gq, 0, none⟩) q.b.length kq])
              have HB21 := Lib.hid (below_row' HB20.out HW.out #[.int .u8 q.tos, .int .u16 q.id, .bool q.df, .bool q.mf, .int .i64 q.off, .int .u8 q.ttl, .int .u8 q.proto, .int .u32 q.src, .int .u32 q.dst, .slice (some ⟨gq, 0, none⟩) q.b.length kq])
              clear HX20 HRQ20 HRB20 HB20
              generalize w20.setRow n #[.int .u8 q.tos, .int .u16 q.id, .bool q.df, .bool q.mf, .int .i64 q.off, .int .u8 q.ttl, .int .u8 q.proto, .int .u32 q.src, .int .u32 q.dst, .slice (some ⟨gq, 0, none⟩) q.b.length kq] = w21 at *
              obtain ⟨d0, d1, d2, d3, d4, d5, d6, d7, d8, d9⟩ := HX21.out.cells
              by_cases hbad : q.bad = 0
              · as_aux_lemma =>
                  have HBAD := Lib.hid hbad
                  obtain ⟨M, hM⟩ : ∃ M, q.bs.length = M := ⟨_, rfl⟩
                  have X := bytes_ok q HQ.out hbad (some ⟨gq, 0, none⟩) kq w21 HRQ21.out
                  rw [hM] at X
                  have HBX := Lib.hid X
                  have HMM := Lib.hid hM
                  clear X hM hbad
                  go_wp2_with fail
                  refine HBX.out.mono ?_
                  rintro e w22 ⟨b22, rfl, _, hy22, hl22⟩
                  have HV : Hid (Rd w22 (.slice (some ⟨b22, 0, none⟩) M M) q.bs) := by
                    have h := hy22.rd
                    rw [HMM.out] at h
                    exact h
                  clear hy22
                  have HX22 := Lib.hid (HX21.out.below hl22)
                  have HRQ22 := Lib.hid (HRQ21.out.below hl22)
                  have HRB22 := Lib.hid (HRB21.out.below hl22)
                  have HB22 := Lib.hid (ibelow_on HB21.out HW.out hl22)
                  clear hl22 d0 d1 d2 d3 d4 d5 d6 d7 d8 d9 HX21 HRQ21 HRB21 HB21 HBX
                  obtain ⟨d0, d1, d2, d3, d4, d5, d6, d7, d8, d9⟩ := HX22.out.cells
                  have XO := Lib.hid (vOf_lit q HQ.out.inn (some ⟨gq, 0, none⟩) kq w22 HRQ22.out)
                  go_wp2_with fail
                  refine XO.out.mono ?_
                  rintro e w23 ⟨rfl, hl23⟩
                  have HX23 := Lib.hid (HX22.out.below hl23)
                  have HRB23 := Lib.hid (HRB22.out.below hl23)
                  have HB23 := Lib.hid (ibelow_on HB22.out HW.out hl23)
                  have HV23 := Lib.hid (HV.out.below hl23)
                  clear hl23 d0 d1 d2 d3 d4 d5 d6 d7 d8 d9 HX22 HRQ22 HRB22 HB22 XO HV
                  have XB := Lib.hid (refBytes_ok q HQ.out HBAD.out w23)
                  go_wp2_with fail
                  refine XB.out.mono ?_
                  rintro e w24 ⟨rfl, hl24⟩
                  have HX24 := Lib.hid (HX23.out.below hl24)
                  have HB24 := Lib.hid (ibelow_on HB23.out HW.out hl24)
                  have v1 := convert_rd (HRB23.out.below hl24)
                  have v2 := convert_rd (HV23.out.below hl24)
                  clear hl24 XB HX23 HRB23 HB23 HV23
                  generalize txt ls = tl at *
                  generalize txt q.bs = tq at *
                  go_wp2_with fail
                  refine (told_none w24).mono ?_
                  rintro e w25 ⟨rfl, rfl⟩
                  clear v1 v2
                  obtain ⟨d0, d1, d2, d3, d4, d5, d6, d7, d8, d9⟩ := HX24.out.cells
                  go_wp2_with fail
                  refine (right_own q HQ.out (some ⟨gq, 0, none⟩) kq w24).mono ?_
                  rintro e w26 ht
                  obtain ⟨rfl, hl26⟩ := ht.good HBAD.out
                  have HB26 := Lib.hid (ibelow_on HB24.out HW.out hl26)
                  clear ht hl26 d0 d1 d2 d3 d4 d5 d6 d7 d8 d9 HX24 HB24
                  go_wp2_with fail
                  refine (told_none w26).mono ?_
                  rintro e w27 ⟨rfl, rfl⟩
                  go_wp2_with fail
                  go_ret
                  exact ⟨rfl, by rw [HW.out]; exact HB26.out⟩
              · as_aux_lemma =>
                  have HBAD := Lib.hid hbad
                  have HBX := Lib.hid (bytes_bad q HQ.out hbad (some ⟨gq, 0, none⟩) kq w21)
                  clear hbad
                  go_wp2_with fail
                  refine HBX.out.mono ?_
                  rintro e w22 ⟨b22, rfl, hc22, hl22⟩
                  have HC22 := Lib.hid hc22
                  clear hc22
                  have HX22 := Lib.hid (HX21.out.below hl22)
                  have HRQ22 := Lib.hid (HRQ21.out.below hl22)
                  have HRB22 := Lib.hid (HRB21.out.below hl22)
                  have HB22 := Lib.hid (ibelow_on HB21.out HW.out hl22)
                  clear hl22 d0 d1 d2 d3 d4 d5 d6 d7 d8 d9 HX21 HRQ21 HRB21 HB21 HBX
                  obtain ⟨d0, d1, d2, d3, d4, d5, d6, d7, d8, d9⟩ := HX22.out.cells
                  have XO := Lib.hid (vOf_lit q HQ.out.inn (some ⟨gq, 0, none⟩) kq w22 HRQ22.out)
                  go_wp2_with fail
                  refine XO.out.mono ?_
                  rintro e w23 ⟨rfl, hl23⟩
                  have HX23 := Lib.hid (HX22.out.below hl23)
                  have HRB23 := Lib.hid (HRB22.out.below hl23)
                  have HB23 := Lib.hid (ibelow_on HB22.out HW.out hl23)
                  have HC23 := Lib.hid (HC22.out.below hl23)
                  clear hl23 d0 d1 d2 d3 d4 d5 d6 d7 d8 d9 HX22 HRQ22 HRB22 HB22 XO HC22
                  have XB := Lib.hid (refBytes_bad q HQ.out HBAD.out w23)
                  go_wp2_with fail
                  refine XB.out.mono ?_
                  rintro e w24 ⟨rfl, hl24⟩
                  have HX24 := Lib.hid (HX23.out.below hl24)
                  have HB24 := Lib.hid (ibelow_on HB23.out HW.out hl24)
                  have v1 := convert_rd (HRB23.out.below hl24)
                  have HC24 := Lib.hid (HC23.out.below hl24)
                  have v2 : (convert 22 9 (.slice none 0 0)).run Tryd.prog w24 = .ok (.string ⟨#[]⟩) w24 := convert_rd (Rd.nil w24)
                  clear hl24 XB HX23 HRB23 HB23 HC23
                  generalize txt ls = tl at *
                  have HTX := Lib.hid (bad_text HBAD.out)
                  generalize hit : ipTxt q.bad = it at *
                  have HIT := Lib.hid hit
                  clear hit
                  go_wp2_with fail
                  refine (told_ip HTX.out.1 HTX.out.2.1 HC24.out it HTX.out.2.2).mono ?_
                  rintro e w25 ⟨rfl, hl25⟩
                  have HX25 := Lib.hid (HX24.out.below hl25)
                  have HB25 := Lib.hid (ibelow_on HB24.out HW.out hl25)
                  clear v1 v2 hl25 HX24 HB24 HC24
                  obtain ⟨d0, d1, d2, d3, d4, d5, d6, d7, d8, d9⟩ := HX25.out.cells
                  go_wp2_with fail
                  refine (right_own q HQ.out (some ⟨gq, 0, none⟩) kq w25).mono ?_
                  rintro e w26 ht
                  obtain ⟨b26, rfl, hc26, hl26⟩ := ht.bad HBAD.out
                  have HB26 := Lib.hid (ibelow_on HB25.out HW.out hl26)
                  have HC26 := Lib.hid hc26
                  clear ht hc26 hl26 d0 d1 d2 d3 d4 d5 d6 d7 d8 d9 HX25 HB25
                  go_wp2_with fail
                  refine (told_ip HTX.out.1 HTX.out.2.1 HC26.out it HTX.out.2.2).mono ?_
                  rintro e w27 ⟨rfl, hl27⟩
                  have HB27 := Lib.hid (ibelow_on HB26.out HW.out hl27)
                  clear hl27 HB26
                  go_wp2_with fail
                  go_ret
                  exact ⟨rfl, by rw [HW.out]; exact HB27.out⟩
end Go.Proofs.YtbielhdmikcngaaDoor
namespace Go.Proofs.YtbielhdmikcngaaDoor
open Go Go.ChangeShapes Go.WideShapes Go.RowKit

/-- The contract. -/
def Ipv4TellsDoes : Prop := ∀ (A0 : Option Addr) (c0 : Nat) (l0 : List UInt8) (p1 : Ip) (A1 : Option Addr) (c1 : Nat) (w : World), Hdl w → Rd w (.slice A0 l0.length c0) l0 → c0 ≤ 9223372036854775807 → p1.Fit → Rd w (.slice A1 p1.b.length c1) p1.b → c1 ≤ 9223372036854775807 → Calls Tryd.prog 3 #[.slice A0 l0.length c0, p1.val (.slice A1 p1.b.length c1)] w fun e w' => e = .returned (.bool true) ∧ Below w.heap.size w w'

set_option maxRecDepth 100000 in
theorem ipv4Tells_lifted (hc : Ipv4TellsDoes) (os : Os) (started : os.Started) (H : Type) (enc : TypeId × Value → H) :
    ReturnsInHanded {} Tryd.checked os 3 .any (fun w args => (Rows.ipv4TellsSpec.pre enc Tryd.prog Tryd.f3 [] false w args ∧ laidMetH Tryd.prog laidList w) ∧ sizedMet enc Tryd.prog Tryd.f3 (OpenSpec.ofChange Rows.ipv4TellsSpec) false w args)
      (Rows.ipv4TellsSpec.post enc Tryd.prog Tryd.f3 false true false false) := by
  refine returnsInHanded_of_change_and (C := Tryd.checked) (X := fun w _ => laidMetH Tryd.prog laidList w) (fun _ _ _ hh h => h.of_heap hh) ownGodebug started (by kernel_rfl) Tryd.func3
    (ChangeSpec.witness_at (enc := enc) (C := Tryd.checked) (os := os) (X := fun w _ => laidMetH Tryd.prog laidList w) false (laidWorld os) #[.slice none 0 0, .agg #[.int .u8 0, .int .u16 0, .bool false, .bool false, .int .i64 0, .int .u8 0, .int .u8 0, .int .u32 0, .int .u32 0, .slice none 0 0]] 8 rfl (by kernel_rfl) (by kernel_rfl) (by kernel_rfl) (by kernel_rfl) (by kernel_rfl) (laidWorld_met os _)) ?_
  intro W base args ds gs before hval0 hW _ _ hL _
  have hval : ∀ (j : Nat) t v, Tryd.f3.params[j]? = some t → args[j]? = some v → Value.okWide Tryd.prog W .any base t v := hval0
  have hW' := hW
  obtain ⟨p, q, hA0, hV0, rfl, hfz, hnd⟩ := hW
  have hA : DataW.TrodAll enc Tryd.prog W 0 (fun _ => true) true Tryd.f3.params.toList args.toList ds p := hA0
  have hV : DataW.TrodVars enc Tryd.prog W (fun _ => true) [] gs q := hV0
  rw [Tryd.params3] at hA hval
  obtain ⟨v0, vs0, d0, ds0, p0, q0, hargs, rfl, rfl, h0, r0⟩ := trodAll_cons hA
  obtain ⟨v1, vs1, d1, ds1, p1, q1, rfl, rfl, rfl, h1, r1⟩ := trodAll_cons r0
  obtain ⟨rfl, rfl, rfl⟩ := trodAll_nil r1
  obtain rfl : args = #[v0, v1] := by cases args; simpa using hargs
  obtain ⟨rfl, rfl⟩ := trodVars_none hV
  obtain ⟨A0, c0, l0, rfl, b0, e0⟩ := open_bytes (hval 0 22 v0 rfl rfl) h0
  obtain ⟨p1, A1, c1, rfl, b1, e1, a1⟩ := open_ip (hval 1 27 v1 rfl rfl) h1
  refine (hc A0 c0 l0 p1 A1 c1 W (hdl_of_laid hL) e0 b0 a1 e1 b1).mono fun e W' ⟨he, hb⟩ => ?_
  subst he
  exact ⟨_, rfl, law_post rfl rfl rfl (by rw [Tryd.params3]; intro t ht; simp at ht; (try rcases ht with rfl | rfl) <;> (try subst ht) <;> exact ⟨by kernel_rfl, by rw [typesSize]; decide⟩) hW' hb⟩
theorem ipv4Tells_row (hc : Ipv4TellsDoes) : Rows.Ipv4TellsSaid :=
  OpenClaim.holds_of_wide 3 Tryd.f3 rfl rfl rfl rfl rfl rfl rfl ⟨rfl, rfl, rfl, rfl, rfl⟩ rfl rfl rfl rfl rfl (by kernel_rfl) Tryd.func3 (by kernel_rfl)
    (of_decide_eq_true (by kernel_rfl)) (by unfold Func.isWrapper; rw [if_neg (of_decide_eq_false (by kernel_rfl))]; exact ⟨rfl, rfl⟩)
    (fun os started H enc _ => ipv4Tells_lifted hc os started H enc)
theorem ipv4Tells_card (hrow : Rows.Ipv4TellsSaid) : Rows.Ipv4TellsCardSaid :=
  Claim7.holds_tied_plain_at .later [] [.handle] true _ true
    hrow (fun _ h => by cases h) (by kernel_rfl) (fun _ h => by cases h) ipv4Tells_row_tie rfl ⟨rfl, rfl⟩ (by kernel_rfl) rfl
    (fun f fn hf hfn => by
      obtain rfl : f = 3 := Option.some.inj ((show Tryd.prog.funcNamed "underpass/underpasslaw05.Ipv4Tells" = some 3 by kernel_rfl).symm.trans hf) |>.symm
      obtain rfl : fn = Tryd.f3 := (Option.some.inj (Tryd.func3.symm.trans hfn)).symm
      exact ⟨by kernel_rfl, fun j t ht => by
        rw [Tryd.params3] at ht
        rcases j with _ | _ | j
        · have h3 : t = 22 := by simpa using ht.symm
          subst h3
          exact (show Tryd.prog.wantsStandIn 22 = false by kernel_rfl)
        · have h3 : t = 27 := by simpa using ht.symm
          subst h3
          exact (show Tryd.prog.wantsStandIn 27 = false by kernel_rfl)
        · simp at ht⟩)
    (by kernel_rfl)
end Go.Proofs.YtbielhdmikcngaaDoor
namespace Go.Proofs.YtbielhdmikcngaaDoor
theorem ipv4Tells_holds : Rows.Ipv4TellsCardSaid := ipv4Tells_card (ipv4Tells_row ipv4Tells_any)
end Go.Proofs.YtbielhdmikcngaaDoor
