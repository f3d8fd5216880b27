/-
  What is proved: UdpSizes' function by contract: it returns true and leaves all older memory as it was.
  Conditions: errors.errorType holds the handle of the type error; the numbers fit their types.
-/
import Derived.Test.YtikcnlcpbifobaaDoorUArith
namespace Go.Proofs.YtikcnlcpbifobaaDoor
open Go.RowKit

theorem u8_wrapI (z : Int) (h0 : 0 ≤ z) (h : z < 256) : IntKind.u8.wrap z = z := by
  have h1 : IntKind.u8.bits = 8 := rfl
  have h2 : IntKind.u8.signed = false := rfl
  simp [IntKind.wrap, h1, h2]
  omega
theorem i64_wrapI (z : Int) (h0 : 0 ≤ z) (h : z < 9223372036854775808) : IntKind.i64.wrap z = z := by
  rw [IntKind.wrap_i64]
  omega
theorem DgAt.chain3 {W : World} {G : Nat} {d : Dg} {A : Option Addr} {n c : Nat} (h : DgAt W G d (.slice A n c)) {m : Int} {l : List ByteArray} {v : Value} (hc : Chain W m l v) (x : Value) : Chain (W.setCell ⟨G, 3, none⟩ x) m l v :=
  hc.fr2 (q := fun a => a = ⟨G, 3, none⟩) (Fr.of_set W _ x rfl) (fun a s ha => by subst ha; rw [h.cells.2.2.2]; simp) (fun a T u ha => by subst ha; rw [h.cells.2.2.2]; simp)
theorem hd8_turn (a b n c s : Nat) (r : List UInt8) : ((hd8 a b n c ++ r).set 4 (UInt8.ofNat (s / 256))).set 5 (UInt8.ofNat s) = hd8 a b s c ++ r := rfl
set_option maxRecDepth 100000 in
set_option maxHeartbeats 8000000 in
theorem udpSizes_any (n0 : Nat) (n1 : Nat) (b2 : Bool) (n3 : Nat) (w : World) (hg : Hdl w) (h0 : n0 < 65536) (h1 : n1 < 65536) (h3 : n3 < 65536) :
    Calls Tryd.prog 7 #[.int .u16 (n0 : Int), .int .u16 (n1 : Int), .bool b2, .int .u16 (n3 : Int)] w fun e w' => e = .returned (.bool true) ∧ Below w.heap.size w w' := by
  have HG := Lib.hid hg
  have XS := Lib.hid (uShown_any w hg)
  obtain ⟨z, hz⟩ : ∃ z, List.replicate 65508 (0 : UInt8) = z := ⟨_, rfl⟩
  have hmk : ∀ W, (Instr.makeSlice 22 (.int .i64 65508) (.int .i64 65508)).run Tryd.prog W = .ok (.slice (some ⟨W.heap.size, 0, none⟩) 65508 65508) (W.alloc (bytesObj z)) := fun W => by
    have h := make_bytes 65508 (by omega) W
    rw [hz] at h
    exact h
  have hzl : z.length = 65508 := by rw [← hz, List.length_replicate]
  obtain ⟨y, hy⟩ : ∃ y, z.take 65507 = y := ⟨_, rfl⟩
  have hyl : y.length = 65507 := by rw [← hy, List.length_take, hzl]; rfl
  obtain ⟨d, hd⟩ : ∃ d : Dg, d = ⟨n0, n1, b2, z⟩ := ⟨_, rfl⟩
  obtain ⟨q, hq⟩ : ∃ q : Dg, q = ⟨n0, n1, b2, y⟩ := ⟨_, rfl⟩
  have HDI : Hid d.In := by rw [hd]; exact ⟨h0, h1, by show z.length ≤ _; omega⟩
  have HDN : Hid (d.n = 65516) := by rw [hd]; show 8 + z.length = _; omega
  have HQI : Hid q.In := by rw [hq]; exact ⟨h0, h1, by show y.length ≤ _; omega⟩
  have HQN : Hid (q.n = 65515) := by rw [hq]; show 8 + y.length = _; omega
  have HQO : Hid (q.Ok 1 2) := ⟨HQI.out, by rw [HQN.out]; decide, by decide, by decide⟩
  have HQB : Hid (q.bs 1 2 = hd8 n0 n1 q.n (q.sum 1 2) ++ y) := by show _ = _; rw [hq]; rfl
  have XB1 : Hid (∀ (A : Option Addr) (W : World), Calls Tryd.prog 13 #[.agg #[.int .u16 (n0 : Int), .int .u16 (n1 : Int), .bool b2, .slice A 65508 65508], .int .u32 1, .int .u32 2] W (ToldErr (.slice none 0 0) 7 [udpWord] W)) := fun A W => by
    have h := uBytes_big d HDI.out (by rw [HDN.out]; decide) A 65508 1 2 W
    rw [hd] at h
    simp only [hzl] at h
    exact h
  have XB2 : Hid (∀ (A : Option Addr) (W : World), Rd W (.slice A 65507 65508) y → Calls Tryd.prog 13 #[.agg #[.int .u16 (n0 : Int), .int .u16 (n1 : Int), .bool b2, .slice A 65507 65508], .int .u32 1, .int .u32 2] W fun e w' => ∃ b, e = .returned (.tuple #[.slice (some ⟨b, 0, none⟩) 65515 65515, .nilIface]) ∧ W.heap.size ≤ b ∧ BAt w' b (q.bs 1 2) ∧ Below W.heap.size W w') := fun A W hr => by
    have h := uBytes_ok q HQI.out (by rw [HQN.out]; decide) A 65508 1 2 W (by rw [hq]; show Rd W (.slice A y.length 65508) y; rw [hyl]; exact hr)
    rw [HQN.out] at h
    rw [hq] at h ⊢
    simp only [hyl] at h
    exact h
  have XP : Hid (∀ (g : Nat) (W : World), BAt W g (q.bs 1 2) → Calls Tryd.prog 9 #[.slice (some ⟨g, 0, none⟩) 65515 65515, .int .u32 1, .int .u32 2] W fun e w' => ∃ bb, e = .returned (.tuple #[.agg #[.int .u16 (n0 : Int), .int .u16 (n1 : Int), .bool b2, .slice (some ⟨bb, 0, none⟩) 65507 65507], .nilIface]) ∧ Below W.heap.size W w') := fun g W hb => by
    have hl : (q.bs 1 2).length = 65515 := by rw [q.bs_len, ← HQN.out]; rfl
    have hr := hb.rd
    rw [hl] at hr
    refine (uParse_back HQO.out 1 2 (by decide) (by decide) [] (.inr rfl) (some ⟨g, 0, none⟩) 65515 65515 HQN.out.symm W (by rw [List.append_nil]; exact hr) (by rw [HQN.out]; decide)).mono ?_
    rintro e w' ⟨bb, he, _, _, hbl⟩
    rw [hq] at he
    simp only [hyl] at he
    exact ⟨bb, he, hbl⟩
  -- the size told smaller
  obtain ⟨s, hs⟩ : ∃ s, n3 % 65516 = s := ⟨_, rfl⟩
  have hs2 : s < 65516 := by omega
  obtain ⟨L, hL⟩ : ∃ L : Int, (n3 : Int) = L := ⟨_, rfl⟩
  obtain ⟨S, hS⟩ : ∃ S : Int, (s : Int) = S := ⟨_, rfl⟩
  have f1 : IntKind.i64.wrap L = L := i64_wrapI _ (by omega) (by omega)
  have f2 : L.tmod 65516 = S := by rw [Int.tmod_eq_emod_of_nonneg (by omega)]; omega
  have f3 : IntKind.i64.wrap S = S := i64_wrapI _ (by omega) (by omega)
  obtain ⟨Q, hQ⟩ : ∃ Q : Int, S / 256 = Q := ⟨_, rfl⟩
  obtain ⟨R, hR⟩ : ∃ R : Int, S % 256 = R := ⟨_, rfl⟩
  have f4 : S.tdiv 256 = Q := by rw [Int.tdiv_eq_ediv_of_nonneg (by omega)]; exact hQ
  have f5 : S.tmod 256 = R := by rw [Int.tmod_eq_emod_of_nonneg (by omega)]; exact hR
  have f6 : IntKind.i64.wrap Q = Q := i64_wrapI _ (by omega) (by omega)
  have f7 : IntKind.i64.wrap R = R := i64_wrapI _ (by omega) (by omega)
  have f8 : IntKind.u8.wrap Q = Q := u8_wrapI _ (by omega) (by omega)
  have f9 : IntKind.u8.wrap R = R := u8_wrapI _ (by omega) (by omega)
  have HBQ : Hid (B8 (UInt8.ofNat (s / 256)) = .int .u8 Q) := B8_of (by rw [ofNat_lt]; omega)
  have HBR : Hid (B8 (UInt8.ofNat s) = .int .u8 R) := B8_of (by rw [ofNat_lt]; omega)
  have HSS : Hid ((s : Int) = S ∧ s < 65516) := ⟨hS, hs2⟩
  have HYL : Hid (y.length = 65507) := hyl
  have HPL : Hid (q.sum 1 2 = 0 ↔ b2 = true) := by
    have h := @Dg.sum_zero q 1 2
    rw [hq] at h ⊢
    exact h
  have HY2 : Hid (∀ (W : World) (g : Nat), Rd W (.slice (some ⟨g, 0, none⟩) 65508 65508) z → Rd W (.slice (some ⟨g, 0, none⟩) 65507 65508) y) := fun W g hr => by
    have h := hr.frontAt (K := 65507) (by omega)
    rwa [hy] at h
  have HZ1 : Hid (∀ (W : World), Rd (W.alloc (bytesObj z)) (.slice (some ⟨W.heap.size, 0, none⟩) 65508 65508) z) := fun W => by
    have h := Rd.of_obj (c := 65508) (bytesObj_new W z) (by omega)
    rwa [hzl] at h
  have HDO : Hid (∀ (bv : Value), d.obj bv = .cells #[.int .u16 (n0 : Int), .int .u16 (n1 : Int), .bool b2, bv] 25) := fun bv => by rw [hd]; rfl
  have HDC : Hid (∀ (W : World) (G : Nat) (bv : Value), DgAt W G d bv → W.cell? ⟨G, 0, none⟩ = some (.int .u16 (n0 : Int)) ∧ W.cell? ⟨G, 1, none⟩ = some (.int .u16 (n1 : Int)) ∧ W.cell? ⟨G, 2, none⟩ = some (.bool b2) ∧ W.cell? ⟨G, 3, none⟩ = some bv) := fun W G bv h => by
    have k := h.cells
    rw [hd] at k
    exact k
  have H0 : Hid (n0 < 65536 ∧ n1 < 65536) := ⟨h0, h1⟩
  clear hg hz hzl hy hyl hd hq hs hs2 hQ hR h0 h1 h3 hS
  go_enter Tryd.func7, Tryd.ntmps7
  go_wp2_with fail
  refine XS.out.mono ?_
  rintro e w1 ⟨rfl, hl1⟩
  have HB1 := Lib.hid hl1
  clear hl1 XS
  have HR2 := Lib.hid ((HZ1.out w1).below (below_al (Below.refl _ _) (d.obj (.slice (some ⟨w1.heap.size, 0, none⟩) 65508 65508))))
  have HP2 := Lib.hid (DgAt.new (w1.alloc (bytesObj z)) d (.slice (some ⟨w1.heap.size, 0, none⟩) 65508 65508))
  have HB2 := Lib.hid (below_to HB1.out (below_al (below_al (Below.refl w1.heap.size w1) (bytesObj z)) (d.obj (.slice (some ⟨w1.heap.size, 0, none⟩) 65508 65508))) HB1.out.size)
  rw [HDO.out] at HR2 HP2 HB2
  rw [World.size_alloc] at HP2
  generalize hW2 : (w1.alloc (bytesObj z)).alloc (.cells #[.int .u16 (n0 : Int), .int .u16 (n1 : Int), .bool b2, .slice (some ⟨w1.heap.size, 0, none⟩) 65508 65508] 25) = W2 at *
  have HWW := Lib.hid hW2
  clear hW2
  go_upto_region 3 with fail
  rw [HWW.out]
  clear HWW hmk HZ1
  have HLT : Hid (w1.heap.size + 1 < W2.heap.size) := HP2.out.lt
  have HWS : Hid (w.heap.size ≤ w1.heap.size) := HB1.out.size
  clear HB1
  generalize w1.heap.size = g1 at *
  obtain ⟨c0, c1, c2, c3⟩ := HDC.out _ _ _ HP2.out
  go_wp2_with fail
  refine (XB1.out _ _).mono ?_
  rintro e w3 ⟨be, rfl, hc3, hl3⟩
  have HR3 := Lib.hid (HR2.out.below hl3)
  have HP3 := Lib.hid (HP2.out.below hl3)
  have HB3 := Lib.hid (below_to HB2.out hl3 HB2.out.size)
  have HC3 := Lib.hid hc3
  have HLT3 : Hid (g1 + 1 < w3.heap.size) := HP3.out.lt
  clear c0 c1 c2 c3 hc3 hl3 HR2 HP2 HB2 HLT XB1
  go_upto_region 4 with fail
  have k3 := (HDC.out _ _ _ HP3.out).2.2.2
  have z3 := HP3.out.free 3
  go_upto_region 5 with fail
  have HP5 : Hid (DgAt (w3.setCell ⟨g1 + 1, 3, none⟩ (.slice (some ⟨g1, 0, none⟩) 65507 65508)) (g1 + 1) d (.slice (some ⟨g1, 0, none⟩) 65507 65508)) := HP3.out.set3 _
  have HR5 : Hid (Rd (w3.setCell ⟨g1 + 1, 3, none⟩ (.slice (some ⟨g1, 0, none⟩) 65507 65508)) (.slice (some ⟨g1, 0, none⟩) 65508 65508) z) := rd_set HR3.out (by omega) _ _
  have HB5 : Hid (Below w.heap.size w (w3.setCell ⟨g1 + 1, 3, none⟩ (.slice (some ⟨g1, 0, none⟩) 65507 65508))) := HB3.out.setCell (p := ⟨g1 + 1, 3, none⟩) (by have := HWS.out; show _ ≤ g1 + 1; omega) _
  have HC5 : Hid (Chain (w3.setCell ⟨g1 + 1, 3, none⟩ (.slice (some ⟨g1, 0, none⟩) 65507 65508)) 7 [udpWord] (.iface 98 (.pointer (some ⟨be, 0, none⟩)))) := HP3.out.chain3 HC3.out _
  clear k3 z3 HP3 HR3 HB3 HC3
  generalize w3.setCell ⟨g1 + 1, 3, none⟩ (.slice (some ⟨g1, 0, none⟩) 65507 65508) = W5 at *
  obtain ⟨c0, c1, c2, c3⟩ := HDC.out _ _ _ HP5.out
  go_wp2_with fail
  refine (XB2.out _ _ (HY2.out _ _ HR5.out)).mono ?_
  rintro e w6 ⟨b, rfl, hbn, hbo, hl6⟩
  have HC6 := Lib.hid (HC5.out.below hl6)
  have HB6 := Lib.hid (below_to HB5.out hl6 HB5.out.size)
  have HY6 := Lib.hid hbo
  have HNB : Hid (w.heap.size ≤ b) := Nat.le_trans HB5.out.size hbn
  clear c0 c1 c2 c3 hbn hbo hl6 HP5 HR5 HB5 HC5 XB2 HY2 HLT3 HWS
  go_wp2_with fail
  refine (XP.out _ _ HY6.out).mono ?_
  rintro e w7 ⟨bb, rfl, hl7⟩
  have b8 := below_al (Below.refl w7.heap.size w7) (d.obj (.slice (some ⟨bb, 0, none⟩) 65507 65507))
  have l8 := below_to hl7 b8 hl7.size
  have HC8 := Lib.hid (HC6.out.below l8)
  have HB8 := Lib.hid (below_to HB6.out l8 HB6.out.size)
  have HY8 := Lib.hid (HY6.out.below l8)
  have HX8 := Lib.hid (DgAt.new w7 d (.slice (some ⟨bb, 0, none⟩) 65507 65507))
  clear hl7 b8 l8 HC6 HB6 HY6 XP
  rw [HDO.out] at HC8 HB8 HY8 HX8
  generalize hW8 : w7.alloc (.cells #[.int .u16 (n0 : Int), .int .u16 (n1 : Int), .bool b2, .slice (some ⟨bb, 0, none⟩) 65507 65507] 25) = W8 at *
  have HWW := Lib.hid hW8
  clear hW8
  go_upto_region 7 with fail
  rw [HWW.out]
  clear HWW
  have XC := Lib.hid (code_any 7 _ _ _ (HG.out.below HB8.out) HC8.out)
  go_wp2_with fail
  refine XC.out.mono ?_
  rintro e w9 ⟨rfl, hl9⟩
  have HB9 := Lib.hid (below_to HB8.out hl9 HB8.out.size)
  have HY9 := Lib.hid (HY8.out.below hl9)
  have k3 := (HDC.out _ _ _ (HX8.out.below hl9)).2.2.2
  clear hl9 HB8 HC8 HX8 XC HY8
  go_upto_region 10 with fail
  clear k3
  have k4 := HY9.out.cell 4 (UInt8.ofNat (q.n / 256)) (by rw [HQB.out]; rfl)
  have z4 := HY9.out.free 4
  go_upto_region 11 with fail
  have HY10 : Hid (BAt (w9.setCell ⟨b, 4, none⟩ (.int .u8 Q)) b ((q.bs 1 2).set 4 (UInt8.ofNat (s / 256)))) := by
    have h := HY9.out.set 4 (UInt8.ofNat (s / 256))
    rw [HBQ.out] at h
    exact h
  have HB10 : Hid (Below w.heap.size w (w9.setCell ⟨b, 4, none⟩ (.int .u8 Q))) := HB9.out.setCell (p := ⟨b, 4, none⟩) HNB.out _
  clear k4 z4 HY9 HB9
  generalize w9.setCell ⟨b, 4, none⟩ (.int .u8 Q) = W10 at *
  have k5 := HY10.out.cell 5 (UInt8.ofNat q.n) (by rw [HQB.out]; rfl)
  have z5 := HY10.out.free 5
  go_upto_region 12 with fail
  have HY11 : Hid (BAt (W10.setCell ⟨b, 5, none⟩ (.int .u8 R)) b (hd8 n0 n1 s (q.sum 1 2) ++ y)) := by
    have h := HY10.out.set 5 (UInt8.ofNat s)
    rw [HBR.out, HQB.out, hd8_turn] at h
    exact h
  have HB11 : Hid (Below w.heap.size w (W10.setCell ⟨b, 5, none⟩ (.int .u8 R))) := HB10.out.setCell (p := ⟨b, 5, none⟩) HNB.out _
  clear k5 z5 HY10 HB10
  generalize W10.setCell ⟨b, 5, none⟩ (.int .u8 R) = W11 at *
  have XQ : Hid (Calls Tryd.prog 9 #[.slice (some ⟨b, 0, none⟩) 65515 65515, .int .u32 1, .int .u32 2] W11 fun e w' => (ucode 1 2 n0 n1 s (q.sum 1 2) y ≠ 0 ∧ ToldErr (.agg noDgRow) (ucode 1 2 n0 n1 s (q.sum 1 2) y) [udpWord] W11 e w') ∨ (ucode 1 2 n0 n1 s (q.sum 1 2) y = 0 ∧ PDgTold ⟨n0, n1, decide (q.sum 1 2 = 0), y.take (s - 8)⟩ W11 e w')) := by
    have hl : (hd8 n0 n1 s (q.sum 1 2) ++ y).length = 65515 := by rw [List.length_append, hd8_len, HYL.out]
    have hr := HY11.out.rd
    rw [hl] at hr
    have e1 : 8 + y.length = 65515 := by rw [HYL.out]
    have h := uParse_long n0 H0.out.1 n1 H0.out.2 s (by have := HSS.out.2; omega) (q.sum 1 2) (q.sum_lt 1 2) y (some ⟨b, 0, none⟩) 65515 1 2 W11 (by rw [e1]; exact hr) (by rw [hl]; decide)
    rw [e1] at h
    exact h
  have HCODE : Hid ((s < 8 ∧ ucode 1 2 n0 n1 s (q.sum 1 2) y = 3) ∨ (8 ≤ s ∧ ucode 1 2 n0 n1 s (q.sum 1 2) y = 4 ∧ b2 = false) ∨ (8 ≤ s ∧ ucode 1 2 n0 n1 s (q.sum 1 2) y = 0)) := by
    have h1 := HYL.out
    have h2 := HSS.out.2
    show _ ∨ _
    unfold ucode
    by_cases hs : s < 8
    · rw [if_pos hs]
      exact .inl ⟨hs, rfl⟩
    · rw [if_neg hs, if_neg (by omega)]
      split
      · rename_i hc
        refine .inr (.inl ⟨by omega, rfl, ?_⟩)
        cases hb : b2
        · rfl
        · exact absurd (HPL.out.2 hb) hc.1
      · exact .inr (.inr ⟨by omega, rfl⟩)
  have HG11 := Lib.hid (HG.out.below HB11.out)
  clear HY11 HQB HPL HG
  generalize ucode 1 2 n0 n1 s (q.sum 1 2) y = cd at *
  rcases HCODE.out with ⟨hs, rfl⟩ | ⟨hs, rfl, rfl⟩ | ⟨hs, rfl⟩
  · have g1 : S < 8 := by have := HSS.out.1; omega
    have g2 : decide (S < 8) = true := decide_eq_true g1
    go_wp2_with fail
    refine XQ.out.mono ?_
    rintro e w13 (⟨_, bf, rfl, hc13, hl13⟩ | ⟨h, _⟩)
    · have b14 := below_al (Below.refl w13.heap.size w13) (.cells noDgRow 25)
      unfold noDgRow at b14
      have XC := Lib.hid (code_any 3 _ _ _ ((HG11.out.below hl13).below b14) (hc13.below b14))
      have HB14 := Lib.hid (below_to HB11.out (below_to hl13 b14 hl13.size) HB11.out.size)
      clear hc13 hl13 b14 HG11 HB11
      unfold noDgRow
      go_wp2_with fail
      refine XC.out.mono ?_
      rintro e w15 ⟨rfl, hl15⟩
      have HB15 := Lib.hid (below_to HB14.out hl15 HB14.out.size)
      clear hl15 XC
      go_wp2_with fail
      go_ret
      exact ⟨rfl, HB15.out⟩
    · exact absurd h (by decide)
  · have g1 : 8 ≤ S := by have := HSS.out.1; omega
    have g2 : decide (S < 8) = false := decide_eq_false (by omega)
    go_wp2_with fail
    refine XQ.out.mono ?_
    rintro e w13 (⟨_, bf, rfl, hc13, hl13⟩ | ⟨h, _⟩)
    · have b14 := below_al (Below.refl w13.heap.size w13) (.cells noDgRow 25)
      have HZ14 : Hid (DgAt (w13.alloc (.cells noDgRow 25)) w13.heap.size noDg (.slice none 0 0)) := heap_alloc_new w13 _
      unfold noDgRow at b14 HZ14
      have XC := Lib.hid (code_any 4 _ _ _ ((HG11.out.below hl13).below b14) (hc13.below b14))
      have HB14 := Lib.hid (below_to HB11.out (below_to hl13 b14 hl13.size) HB11.out.size)
      clear hc13 hl13 b14 HG11 HB11
      unfold noDgRow
      go_wp2_with fail
      refine XC.out.mono ?_
      rintro e w15 ⟨rfl, hl15⟩
      have HB15 := Lib.hid (below_to HB14.out hl15 HB14.out.size)
      have k3 := (HZ14.out.below hl15).cells.2.2.2
      clear hl15 XC
      go_wp2_with fail
      go_ret
      exact ⟨rfl, HB15.out⟩
    · exact absurd h (by decide)
  · have g1 : 8 ≤ S := by have := HSS.out.1; omega
    have g2 : decide (S < 8) = false := decide_eq_false (by omega)
    obtain ⟨S8, hS8⟩ : ∃ S8 : Int, S - 8 = S8 := ⟨_, rfl⟩
    have g3 : IntKind.i64.wrap S8 = S8 := i64_wrapI _ (by omega) (by have := HSS.out; omega)
    have g4 : (((y.take (s - 8)).length : Nat) : Int) = S8 := by rw [List.length_take]; have h1 := HSS.out; have h2 := HYL.out; omega
    go_wp2_with fail
    refine XQ.out.mono ?_
    rintro e w13 (⟨h, _⟩ | ⟨_, bf, he, _, _, hl13⟩)
    · exact absurd rfl h
    · have he' : e = .returned (.tuple #[.agg #[.int .u16 (n0 : Int), .int .u16 (n1 : Int), .bool (decide (q.sum 1 2 = 0)), .slice (some ⟨bf, 0, none⟩) (y.take (s - 8)).length (y.take (s - 8)).length], .nilIface]) := he
      clear he
      subst he'
      clear XQ HCODE
      generalize decide (q.sum 1 2 = 0) = P at *
      generalize (y.take (s - 8)).length = m at *
      have k3 : (w13.alloc (.cells #[.int .u16 (n0 : Int), .int .u16 (n1 : Int), .bool P, .slice (some ⟨bf, 0, none⟩) m m] 25)).cell? ⟨w13.heap.size, 3, none⟩ = some (.slice (some ⟨bf, 0, none⟩) m m) := by
        rw [cell_of_row _ _ _ _ _ _ (heap_alloc_new w13 _)]
        rfl
      have HB14 := Lib.hid (below_to HB11.out (below_to hl13 (below_al (Below.refl w13.heap.size w13) (.cells #[.int .u16 (n0 : Int), .int .u16 (n1 : Int), .bool P, .slice (some ⟨bf, 0, none⟩) m m] 25)) hl13.size) HB11.out.size)
      clear hl13 HB11 HG11
      go_wp2_with fail
      go_ret
      exact ⟨rfl, HB14.out⟩
end Go.Proofs.YtikcnlcpbifobaaDoor
