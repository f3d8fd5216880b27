/-
  What is proved: UdpStrange' function by contract: it returns true and leaves all older memory as it was.
  Conditions: errors.errorType holds the handle of the type error; the datagrams' numbers fit their types.
-/
import Derived.Test.YtikcnlcpbifobaaDoorUOf
import Derived.Test.YtikcnlcpbifobaaDoorLawUSizes
namespace Go.Proofs.YtikcnlcpbifobaaDoor
open Go.RowKit

theorem u32_wrapI (z : Int) (h0 : 0 ≤ z) (h : z < 4294967296) : IntKind.u32.wrap z = z := by
  have h1 : IntKind.u32.bits = 32 := rfl
  have h2 : IntKind.u32.signed = false := rfl
  simp [IntKind.wrap, h1, h2]
  omega
theorem u16_wrapI (z : Int) (h0 : 0 ≤ z) (h : z < 65536) : IntKind.u16.wrap z = z := by
  have h1 : IntKind.u16.bits = 16 := rfl
  have h2 : IntKind.u16.signed = false := rfl
  simp [IntKind.wrap, h1, h2]
  omega
theorem alike_cases (O R : Int) (o r : Nat) (hO : (o : Int) = O) (hR : R = (r : Int)) (al : Bool) (hal : decide (o = r ∨ o = 0 ∧ r = 65535 ∨ o = 65535 ∧ r = 0) = al) :
    ((O == R) = true ∧ al = true) ∨ ((O == R) = false ∧ (O == 0) = true ∧ (R == 65535) = true ∧ (O == 65535) = false ∧ al = true) ∨ ((O == R) = false ∧ (O == 0) = true ∧ (R == 65535) = false ∧ (O == 65535) = false ∧ al = false) ∨
    ((O == R) = false ∧ (O == 0) = false ∧ (O == 65535) = true ∧ (R == 0) = true ∧ al = true) ∨ ((O == R) = false ∧ (O == 0) = false ∧ (O == 65535) = true ∧ (R == 0) = false ∧ al = false) ∨ ((O == R) = false ∧ (O == 0) = false ∧ (O == 65535) = false ∧ al = false) := by
  have t : ∀ a b : Int, a = b → (a == b) = true := fun a b h => by simp [h]
  have f : ∀ a b : Int, a ≠ b → (a == b) = false := fun a b h => by simp [h]
  by_cases h1 : o = r
  · exact .inl ⟨t _ _ (by omega), by rw [← hal]; exact decide_eq_true (.inl h1)⟩
  · have e1 := f O R (by omega)
    by_cases h2 : o = 0
    · by_cases h3 : r = 65535
      · exact .inr (.inl ⟨e1, t _ _ (by omega), t _ _ (by omega), f _ _ (by omega), by rw [← hal]; exact decide_eq_true (.inr (.inl ⟨h2, h3⟩))⟩)
      · exact .inr (.inr (.inl ⟨e1, t _ _ (by omega), f _ _ (by omega), f _ _ (by omega), by rw [← hal]; exact decide_eq_false (by omega)⟩))
    · by_cases h3 : o = 65535
      · by_cases h4 : r = 0
        · exact .inr (.inr (.inr (.inl ⟨e1, f _ _ (by omega), t _ _ (by omega), t _ _ (by omega), by rw [← hal]; exact decide_eq_true (.inr (.inr ⟨h3, h4⟩))⟩)))
        · exact .inr (.inr (.inr (.inr (.inl ⟨e1, f _ _ (by omega), t _ _ (by omega), f _ _ (by omega), by rw [← hal]; exact decide_eq_false (by omega)⟩))))
      · exact .inr (.inr (.inr (.inr (.inr ⟨e1, f _ _ (by omega), f _ _ (by omega), by rw [← hal]; exact decide_eq_false (by omega)⟩))))
theorem alike_weight (h r o x : Nat) (hr : r < 65536) (ho : o < 65536) (al : Bool) (hal : decide (o = r ∨ o = 0 ∧ r = 65535 ∨ o = 65535 ∧ r = 0) = al) :
    (al = true → (h + o + x) % 65535 = (h + r + x) % 65535) ∧ (al = false → (h + o + x) % 65535 ≠ (h + r + x) % 65535) := by
  constructor
  · intro ha
    rw [ha] at hal
    have hal := of_decide_eq_true hal
    rcases hal with e | ⟨e, e2⟩ | ⟨e, e2⟩
    · rw [e]
    · subst e e2
      omega
    · subst e e2
      omega
  · intro ha
    rw [ha] at hal
    have hal := of_decide_eq_false hal
    intro hm
    apply hal
    generalize h + x = y at *
    omega
set_option maxRecDepth 100000 in
set_option maxHeartbeats 8000000 in
theorem udpStrange_any (d0 : Dg) (A0 : Option Addr) (c0 : Nat) (n1 : Nat) (n2 : Nat) (n3 : Nat) (w : World) (hg : Hdl w) (hf0 : d0.Fit) (hr0 : Rd w (.slice A0 d0.b.length c0) d0.b) (_hc0 : c0 ≤ 9223372036854775807)
    (h1 : n1 < 4294967296) (h2 : n2 < 4294967296) (h3 : n3 < 65536) :
    Calls Tryd.prog 6 #[d0.val (.slice A0 d0.b.length c0), .int .u32 (n1 : Int), .int .u32 (n2 : Int), .int .u16 (n3 : Int)] w fun e w' => e = .returned (.bool true) ∧ Below w.heap.size w w' := by
  have b2 := below_al (Below.refl w.heap.size w) (d0.obj (.slice A0 d0.b.length c0))
  have HS := Lib.hid (uShown_any _ (hg.below b2))
  have HX0 : Hid (DgAt (w.alloc (d0.obj (.slice A0 d0.b.length c0))) w.heap.size d0.few (.slice A0 d0.b.length c0)) := DgAt.new w d0 (.slice A0 d0.b.length c0)
  have HB := Lib.hid b2
  have HG := Lib.hid hg
  have HRP := Lib.hid (Dg.few_rd hr0)
  have HLEN0 := Lib.hid d0.few_len
  have HCAP0 := Lib.hid (Dg.few_cap hr0)
  have HIP := Lib.hid (Dg.few_in hf0)
  have HNP := Lib.hid d0.few_n
  -- the other source
  obtain ⟨s2, hs2⟩ : ∃ s2 : Nat, n1 - n1 % 65536 + n3 = s2 := ⟨_, rfl⟩
  have HOK : Hid (d0.few.Ok n1 n2) := ⟨HIP.out, by have := HNP.out; omega, h1, h2⟩
  have HS2 : Hid (s2 < 4294967296 ∧ s2 / 65536 = n1 / 65536 ∧ s2 % 65536 = n3 ∧ n3 < 65536 ∧ n2 < 4294967296) := ⟨by omega, by omega, by omega, h3, h2⟩
  obtain ⟨S, hS⟩ : ∃ S : Int, (n1 : Int) = S := ⟨_, rfl⟩
  obtain ⟨O, hO⟩ : ∃ O : Int, (n3 : Int) = O := ⟨_, rfl⟩
  obtain ⟨R, hR⟩ : ∃ R : Int, S % 65536 = R := ⟨_, rfl⟩
  obtain ⟨S0, hS0⟩ : ∃ S0 : Int, S - R = S0 := ⟨_, rfl⟩
  obtain ⟨S2, hSS⟩ : ∃ S2 : Int, S0 + O = S2 := ⟨_, rfl⟩
  have f1 : S.tmod 65536 = R := by rw [Int.tmod_eq_emod_of_nonneg (by omega)]; exact hR
  have f2 : IntKind.u32.wrap R = R := u32_wrapI _ (by omega) (by omega)
  have f3 : IntKind.u16.wrap R = R := u16_wrapI _ (by omega) (by omega)
  have f4 : IntKind.u32.wrap S0 = S0 := u32_wrapI _ (by omega) (by omega)
  have f5 : IntKind.u32.wrap O = O := u32_wrapI _ (by omega) (by omega)
  have f6 : IntKind.u32.wrap S2 = S2 := u32_wrapI _ (by omega) (by omega)
  have HSZ : Hid ((s2 : Int) = S2 ∧ (n1 : Int) = S ∧ (n3 : Int) = O ∧ R = ((n1 % 65536 : Nat) : Int)) := ⟨by omega, hS, hO, by omega⟩
  clear hg b2 hf0 hr0 h1 h2 h3 hs2 hR
  rw [Dg.val_lit]
  have e0 : d0.src = d0.few.src ∧ d0.dst = d0.few.dst ∧ d0.plain = d0.few.plain := ⟨rfl, rfl, rfl⟩
  unfold Dg.obj at HS
  generalize hW : (w.alloc (d0.obj (.slice A0 d0.b.length c0))) = W0 at HX0 HB
  unfold Dg.obj at hW
  rw [hW] at HS
  rw [e0.1, e0.2.1, e0.2.2] at hW ⊢
  clear e0
  generalize d0.few = p at *
  have XB : Hid (∀ W, Rd W (.slice A0 p.b.length c0) p.b → Calls Tryd.prog 13 #[.agg #[.int .u16 p.src, .int .u16 p.dst, .bool p.plain, .slice A0 p.b.length c0], .int .u32 S, .int .u32 (n2 : Int)] W fun e w' => ∃ b, e = .returned (.tuple #[.slice (some ⟨b, 0, none⟩) p.n p.n, .nilIface]) ∧ W.heap.size ≤ b ∧ BAt w' b (p.bs n1 n2) ∧ Below W.heap.size W w') := fun W hr => by
    rw [← hS]
    exact uBytes_ok p HIP.out (by have := HNP.out; omega) A0 c0 n1 n2 W hr
  rw [hS, hO]
  clear hS hO
  go_enter Tryd.func6, Tryd.ntmps6
  go_upto_region 1 with fail
  (try rw [hW])
  clear hW
  go_wp2_with fail
  refine HS.out.mono ?_
  rintro e w1 ⟨rfl, hl⟩
  have HX0N := Lib.hid (HX0.out.below hl)
  have HBN := Lib.hid (below_to HB.out hl HB.out.size)
  clear HS hl HB HX0
  have HB := HBN
  have HX0 := HX0N
  clear HBN HX0N
  go_upto_region 2 with fail
  obtain ⟨M0, hM0⟩ : ∃ M : Int, ((d0.b.length : Nat) : Int) = M := ⟨_, rfl⟩
  obtain ⟨K0, hK0⟩ : ∃ K : Int, ((p.b.length : Nat) : Int) = K := ⟨_, rfl⟩
  have hx0 : (p.b.length : Nat) = min d0.b.length 3000 := HLEN0.out
  have hmin0 : ∀ W, (Builtin.min_ #[3, 3] 3 #[.int .i64 M0, .int .i64 3000]).run Tryd.prog W = .ok (.int .i64 K0) W := fun W => min_run (P := Tryd.prog) #[3, 3] 3 M0 3000 K0 (by omega) W
  have i1 : 0 ≤ K0 := by omega
  have i2 : ¬ K0 < 0 := by omega
  have i3 : K0 ≤ (c0 : Int) := by have := HCAP0.out; omega
  have i4 : K0.toNat = p.b.length := by omega
  clear hx0 hK0
  have k3 := HX0.out.cells.2.2.2
  have z3 := HX0.out.free 3
  go_upto_region 3 with fail
  have HXN : Hid (DgAt (w1.setCell ⟨w.heap.size, 3, none⟩ (.slice A0 p.b.length c0)) w.heap.size p (.slice A0 p.b.length c0)) := HX0.out.set3 _
  have HBN : Hid (Below w.heap.size w (w1.setCell ⟨w.heap.size, 3, none⟩ (.slice A0 p.b.length c0))) := HB.out.setCell (p := ⟨w.heap.size, 3, none⟩) (Nat.le_refl _) _
  clear hM0 hmin0 i1 i2 i3 i4 k3 z3 HX0 HB
  generalize w1.setCell ⟨w.heap.size, 3, none⟩ (.slice A0 p.b.length c0) = W2 at *
  have HX0 := HXN
  have HB := HBN
  clear HXN HBN
  obtain ⟨k0, k1, k2, k3⟩ := HX0.out.cells
  go_wp2_with fail
  refine (XB.out _ (HRP.out.below HB.out)).mono ?_
  rintro e w4 ⟨b, rfl, _, hy, hl⟩
  have HY0 := Lib.hid ((show BAt w4 b (p.bs n1 n2) from hy))
  have HX0N := Lib.hid (HX0.out.below hl)
  have HBN := Lib.hid (below_to HB.out hl HB.out.size)
  clear hl HB HX0 hy k0 k1 k2 k3 XB
  have HB := HBN
  have HX0 := HX0N
  clear HBN HX0N
  generalize hm : p.n = m at *
  have HM := Lib.hid hm
  clear hm
  have HALIKE : Hid ((p.plain = true ∨ (s2 / 65536 + s2 % 65536 + (n2 / 65536 + n2 % 65536)) % 65535 = (n1 / 65536 + n1 % 65536 + (n2 / 65536 + n2 % 65536)) % 65535) → Calls Tryd.prog 9 #[.slice (some ⟨b, 0, none⟩) m m, .int .u32 S2, .int .u32 (n2 : Int)] w4 (PDgTold p w4)) := fun h => by
    have hr := HY0.out.rd
    rw [p.bs_len] at hr
    have h2 := uParse_back HOK.out s2 n2 HS2.out.1 HS2.out.2.2.2.2 [] h (some ⟨b, 0, none⟩) m m (by rw [HM.out]; rfl) w4 (by rw [List.append_nil, ← HM.out]; exact hr) (by have h1 := HNP.out; have h2 := HM.out; simp only [List.length_nil]; omega)
    rw [HSZ.out.1] at h2
    exact h2
  have HSTRANGE : Hid (p.plain = false → (s2 / 65536 + s2 % 65536 + (n2 / 65536 + n2 % 65536)) % 65535 ≠ (n1 / 65536 + n1 % 65536 + (n2 / 65536 + n2 % 65536)) % 65535 → Calls Tryd.prog 9 #[.slice (some ⟨b, 0, none⟩) m m, .int .u32 S2, .int .u32 (n2 : Int)] w4 (ToldErr (.agg noDgRow) 4 [udpWord] w4)) := fun hp h => by
    have hr := HY0.out.rd
    rw [p.bs_len] at hr
    have h2 := uParse_strange HOK.out hp s2 n2 HS2.out.1 HS2.out.2.2.2.2 h (some ⟨b, 0, none⟩) m m HM.out.symm w4 (by rw [← HM.out]; exact hr)
    rw [HSZ.out.1] at h2
    exact h2
  have HP0 : Hid (p.plain = true ∨ p.plain = false) := by
    show _ ∨ _
    cases p.plain <;> simp
  obtain ⟨al, hal⟩ : ∃ al : Bool, decide (n3 = n1 % 65536 ∨ n3 = 0 ∧ n1 % 65536 = 65535 ∨ n3 = 65535 ∧ n1 % 65536 = 0) = al := ⟨_, rfl⟩
  have HC6 := Lib.hid (alike_cases O R n3 (n1 % 65536) HSZ.out.2.2.1 HSZ.out.2.2.2 al hal)
  have HAL : Hid ((al = true → (s2 / 65536 + s2 % 65536 + (n2 / 65536 + n2 % 65536)) % 65535 = (n1 / 65536 + n1 % 65536 + (n2 / 65536 + n2 % 65536)) % 65535) ∧ (al = false → (s2 / 65536 + s2 % 65536 + (n2 / 65536 + n2 % 65536)) % 65535 ≠ (n1 / 65536 + n1 % 65536 + (n2 / 65536 + n2 % 65536)) % 65535)) := by
    have h2 := HS2.out
    rw [h2.2.1, h2.2.2.1]
    exact alike_weight (n1 / 65536) (n1 % 65536) n3 (n2 / 65536 + n2 % 65536) (Nat.mod_lt _ (by decide)) h2.2.2.2.1 al hal
  clear hal HOK
  have HG4 := Lib.hid (HG.out.below HB.out)
  have HBS : Hid (w.heap.size ≤ w4.heap.size ∧ w.heap.size < w4.heap.size) := ⟨HB.out.size, HX0.out.lt⟩
  by_cases hgood : p.plain = true ∨ al = true
  · have X5 := Lib.hid (HALIKE.out (hgood.imp_right HAL.out.1))
    have HGOOD : Hid (p.plain = true ∨ (p.plain = false ∧ al = true)) := by
      rcases hgood with h | h
      · exact .inl h
      · rcases HP0.out with h2 | h2
        · exact .inl h2
        · exact .inr ⟨h2, h⟩
    clear hgood HALIKE HSTRANGE HAL HP0
    unfold PDgTold at X5
    go_wp2_with fail
    refine X5.out.mono ?_
    rintro e w5 ⟨bb, rfl, hbn, hbo, hl⟩
    have b6 := below_al (Below.refl w5.heap.size w5) (.cells #[.int .u16 p.src, .int .u16 p.dst, .bool p.plain, .slice (some ⟨bb, 0, none⟩) p.b.length p.b.length] 25)
    have l6 := below_to hl b6 hl.size
    have HV6 : Hid (DgAt (w5.alloc (.cells #[.int .u16 p.src, .int .u16 p.dst, .bool p.plain, .slice (some ⟨bb, 0, none⟩) p.b.length p.b.length] 25)) w5.heap.size p (.slice (some ⟨bb, 0, none⟩) p.b.length p.b.length)) := DgAt.new w5 p _
    have HX6 := Lib.hid (HX0.out.below l6)
    have HB6 := Lib.hid (below_to HB.out l6 HBS.out.1)
    have HR6 := Lib.hid ((Rd.of_obj (c := p.b.length) hbo (Nat.le_refl _)).below b6)
    clear hbn hbo hl b6 l6 X5 HX0 HB HY0
    generalize hW6 : w5.alloc (.cells #[.int .u16 p.src, .int .u16 p.dst, .bool p.plain, .slice (some ⟨bb, 0, none⟩) p.b.length p.b.length] 25) = W6 at *
    have HWW := Lib.hid hW6
    clear hW6
    go_upto_region 6 with fail
    rw [HWW.out]
    clear HWW
    generalize w5.heap.size = g6 at *
    go_cut [15] (fun s15 wx => s15 = .bool al ∧ wx = W6)
    case first =>
      rcases HC6.out with ⟨a1, a2⟩ | ⟨a1, a2, a3, a4, a5⟩ | ⟨a1, a2, a3, a4, a5⟩ | ⟨a1, a2, a3, a4, a5⟩ | ⟨a1, a2, a3, a4, a5⟩ | ⟨a1, a2, a3, a5⟩
      all_goals
        go_wp2_with fail
        go_meet
        exact ⟨by simp only [*], rfl⟩
    obtain ⟨rfl, rfl⟩ := hcut
    generalize wc = W6 at *
    have HE : Hid (∀ W, _) := fun W => refDg_eqB p p W
    rw [dgB_same] at HE
    have XP : Hid (∀ W, Below W6.heap.size W6 W → Calls Tryd.prog 12 #[.agg #[.int .u16 p.src, .int .u16 p.dst, .bool p.plain, .slice (some ⟨bb, 0, none⟩) p.b.length p.b.length]] W fun e w' => e = .returned (.agg #[.int .u32 p.src, .int .u32 p.dst, .bool p.plain, .string (txt p.b)]) ∧ Below W.heap.size W w') := fun W h => uof_any p HIP.out (some ⟨bb, 0, none⟩) p.b.length W (HR6.out.below h)
    have XQ : Hid (∀ W, Below W6.heap.size W6 W → Calls Tryd.prog 12 #[.agg #[.int .u16 p.src, .int .u16 p.dst, .bool p.plain, .slice A0 p.b.length c0]] W fun e w' => e = .returned (.agg #[.int .u32 p.src, .int .u32 p.dst, .bool p.plain, .string (txt p.b)]) ∧ Below W.heap.size W w') := fun W h => uof_any p HIP.out A0 c0 W (HRP.out.below (below_to HB6.out h HB6.out.size))
    have KS : Hid (∀ W, Below W6.heap.size W6 W → W.cell? ⟨g6, 0, none⟩ = some (.int .u16 p.src) ∧ W.cell? ⟨g6, 1, none⟩ = some (.int .u16 p.dst) ∧ W.cell? ⟨g6, 2, none⟩ = some (.bool p.plain) ∧ W.cell? ⟨g6, 3, none⟩ = some (.slice (some ⟨bb, 0, none⟩) p.b.length p.b.length) ∧ W.cell? ⟨w.heap.size, 0, none⟩ = some (.int .u16 p.src) ∧ W.cell? ⟨w.heap.size, 1, none⟩ = some (.int .u16 p.dst) ∧ W.cell? ⟨w.heap.size, 2, none⟩ = some (.bool p.plain) ∧ W.cell? ⟨w.heap.size, 3, none⟩ = some (.slice A0 p.b.length c0)) := fun W h => by
      obtain ⟨e0, e1, e2, e3⟩ := (HV6.out.below h).cells
      obtain ⟨f0, f1, f2, f3⟩ := (HX6.out.below h).cells
      exact ⟨e0, e1, e2, e3, f0, f1, f2, f3⟩
    have k2 := (KS.out W6 (Below.refl _ _)).2.2.2.2.2.2.1
    have HNS : Hid (w.heap.size ≤ W6.heap.size) := HB6.out.size
    have HEE := HE.out
    clear HE HC6 HV6 HX6 HR6 HRP
    generalize txt p.b = up at *
    generalize hn : w.heap.size = n at *
    have HW := Lib.hid hn
    clear hn
    rcases HGOOD.out with hp | ⟨hp, hal⟩
    · as_aux_lemma =>
        go_upto_region 8 with fail
        clear k2 hp
        go_region_held_law (fun W => W.cell? ⟨g6, 0, none⟩ = some (.int .u16 p.src) ∧ W.cell? ⟨g6, 1, none⟩ = some (.int .u16 p.dst) ∧ W.cell? ⟨g6, 2, none⟩ = some (.bool p.plain) ∧ W.cell? ⟨g6, 3, none⟩ = some (.slice (some ⟨bb, 0, none⟩) p.b.length p.b.length) ∧ W.cell? ⟨n, 0, none⟩ = some (.int .u16 p.src) ∧ W.cell? ⟨n, 1, none⟩ = some (.int .u16 p.dst) ∧ W.cell? ⟨n, 2, none⟩ = some (.bool p.plain) ∧ W.cell? ⟨n, 3, none⟩ = some (.slice A0 p.b.length c0))
          (first | assumption | exact KS.out _ (below_drew W6) | exact KS.out _ H9.out | exact KS.out _ H10.out)
          (first
            | (go_at_call 12; (with_reducible refine (XP.out _ (below_drew W6)).mono ?_); rintro e w9 ⟨rfl, hl9⟩; (have H9 := Lib.hid ((below_drew W6).trans hl9)); clear hl9)
            | (go_at_call 12; (with_reducible refine (XQ.out _ H9.out).mono ?_); rintro e w10 ⟨rfl, hl10⟩; (have H10 := Lib.hid (below_to H9.out hl10 H9.out.size)); clear hl10))
        all_goals (go_wp2_with fail)
        all_goals go_ret
        all_goals exact ⟨rfl, by rw [HW.out]; exact below_to HB6.out H10.out HNS.out⟩
    · as_aux_lemma =>
        subst hal
        go_upto_region 8 with fail
        clear k2 hp
        go_region_held_law (fun W => W.cell? ⟨g6, 0, none⟩ = some (.int .u16 p.src) ∧ W.cell? ⟨g6, 1, none⟩ = some (.int .u16 p.dst) ∧ W.cell? ⟨g6, 2, none⟩ = some (.bool p.plain) ∧ W.cell? ⟨g6, 3, none⟩ = some (.slice (some ⟨bb, 0, none⟩) p.b.length p.b.length) ∧ W.cell? ⟨n, 0, none⟩ = some (.int .u16 p.src) ∧ W.cell? ⟨n, 1, none⟩ = some (.int .u16 p.dst) ∧ W.cell? ⟨n, 2, none⟩ = some (.bool p.plain) ∧ W.cell? ⟨n, 3, none⟩ = some (.slice A0 p.b.length c0))
          (first | assumption | exact KS.out _ (below_drew W6) | exact KS.out _ H9.out | exact KS.out _ H10.out)
          (first
            | (go_at_call 12; (with_reducible refine (XP.out _ (below_drew W6)).mono ?_); rintro e w9 ⟨rfl, hl9⟩; (have H9 := Lib.hid ((below_drew W6).trans hl9)); clear hl9)
            | (go_at_call 12; (with_reducible refine (XQ.out _ H9.out).mono ?_); rintro e w10 ⟨rfl, hl10⟩; (have H10 := Lib.hid (below_to H9.out hl10 H9.out.size)); clear hl10))
        all_goals (go_wp2_with fail)
        all_goals go_ret
        all_goals exact ⟨rfl, by rw [HW.out]; exact below_to HB6.out H10.out HNS.out⟩
  · have hp : p.plain = false := by
      rcases HP0.out with h | h
      · exact absurd (.inl h) hgood
      · exact h
    have ha : al = false := by
      cases al
      · rfl
      · exact absurd (.inr rfl) hgood
    have X5 := Lib.hid (HSTRANGE.out hp (HAL.out.2 ha))
    have HPF := Lib.hid hp
    have HAF := Lib.hid ha
    clear hgood HALIKE HSTRANGE HAL HP0 hp ha
    unfold ToldErr at X5
    go_wp2_with fail
    refine X5.out.mono ?_
    rintro e w5 ⟨bb, rfl, hc, hl⟩
    have b6 := below_al (Below.refl w5.heap.size w5) (.cells noDgRow 25)
    have l6 := below_to hl b6 hl.size
    have HX6 := Lib.hid (HX0.out.below l6)
    have HB6 := Lib.hid (below_to HB.out l6 HBS.out.1)
    have HC := Lib.hid (hc.below b6)
    clear hc hl b6 l6 X5 HX0 HB HY0
    unfold noDgRow at *
    generalize hW6 : w5.alloc (.cells #[.int .u16 0, .int .u16 0, .bool false, .slice none 0 0] 25) = W6 at *
    have HWW := Lib.hid hW6
    clear hW6
    go_upto_region 6 with fail
    rw [HWW.out]
    clear HWW
    go_cut [15] (fun s15 wx => s15 = .bool al ∧ wx = W6)
    case first =>
      rcases HC6.out with ⟨a1, a2⟩ | ⟨a1, a2, a3, a4, a5⟩ | ⟨a1, a2, a3, a4, a5⟩ | ⟨a1, a2, a3, a4, a5⟩ | ⟨a1, a2, a3, a4, a5⟩ | ⟨a1, a2, a3, a5⟩
      all_goals
        go_wp2_with fail
        go_meet
        exact ⟨by simp only [*], rfl⟩
    obtain ⟨rfl, rfl⟩ := hcut
    generalize wc = W6 at *
    have XC := Lib.hid (code_any 4 _ _ _ (HG.out.below HB6.out) HC.out)
    have k2 := HX6.out.cells.2.2.1
    have hp := HPF.out
    have ha := HAF.out
    subst ha
    go_wp2_with fail
    refine XC.out.mono ?_
    rintro e w9 ⟨rfl, hl9⟩
    have HB9 := Lib.hid (below_to HB6.out hl9 HB6.out.size)
    clear hl9 XC k2
    go_wp2_with fail
    go_ret
    exact ⟨rfl, HB9.out⟩
end Go.Proofs.YtikcnlcpbifobaaDoor
