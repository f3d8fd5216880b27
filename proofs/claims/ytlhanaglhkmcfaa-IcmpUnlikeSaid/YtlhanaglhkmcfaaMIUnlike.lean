/-
  What is proved: IcmpUnlike' function by contract: it returns true and leaves all older memory as it was.
  Conditions: the messages' numbers fit their types.
  What is proved: rows of laws out of their functions' contracts.
  Conditions: the contracts, handed in.
  What is proved: IcmpUnlike: for any two messages the law returns true, and leaves its arguments as they were.
  Conditions: none.
-/
import Derived.Test.YtlhanaglhkmcfaaIOf
import Derived.Test.YtlhanaglhkmcfaaIShown
import Derived.Test.YtlhanaglhkmcfaaILift
namespace Go.Proofs.Ytlhanaglhkmcfaa
open Go.RowKit

theorem MsAt.set3 {W : World} {G : Nat} {d : Ms} {bv : Value} (h : MsAt W G d bv) (v : Value) : MsAt (W.setCell ⟨G, 3, none⟩ v) G d v := by
  have h' : W.heap[G]? = some (d.obj bv) := h
  unfold MsAt
  rw [heap_set, h']
  simp [Ms.obj]
set_option maxRecDepth 100000 in
set_option maxHeartbeats 8000000 in
theorem icmpUnlike_any (d0 : Ms) (A0 : Option Addr) (c0 : Nat) (d1 : Ms) (A1 : Option Addr) (c1 : Nat) (w : World) (hf0 : d0.Fit) (hr0 : Rd w (.slice A0 d0.b.length c0) d0.b) (_hc0 : c0 ≤ 9223372036854775807)
    (hf1 : d1.Fit) (hr1 : Rd w (.slice A1 d1.b.length c1) d1.b) (_hc1 : c1 ≤ 9223372036854775807) :
    Calls Try.prog 3 #[d0.val (.slice A0 d0.b.length c0), d1.val (.slice A1 d1.b.length c1)] w fun e w' => e = .returned (.bool true) ∧ Below w.heap.size w w' := by
  have b2 := below_al (below_al (Below.refl w.heap.size w) (d0.obj (.slice A0 d0.b.length c0))) (d1.obj (.slice A1 d1.b.length c1))
  have HS := Lib.hid (iShown_any ((w.alloc (d0.obj (.slice A0 d0.b.length c0))).alloc (d1.obj (.slice A1 d1.b.length c1))))
  have HX0 : Hid (MsAt ((w.alloc (d0.obj (.slice A0 d0.b.length c0))).alloc (d1.obj (.slice A1 d1.b.length c1))) w.heap.size d0.few (.slice A0 d0.b.length c0)) := (MsAt.new w d0 (.slice A0 d0.b.length c0)).below (below_al (Below.refl _ _) _)
  have HX1 : Hid (MsAt ((w.alloc (d0.obj (.slice A0 d0.b.length c0))).alloc (d1.obj (.slice A1 d1.b.length c1))) (w.heap.size + 1) d1.few (.slice A1 d1.b.length c1)) := by
    have h := MsAt.new (w.alloc (d0.obj (.slice A0 d0.b.length c0))) d1 (.slice A1 d1.b.length c1)
    rwa [World.size_alloc] at h
  have HB := Lib.hid b2
  have HRP := Lib.hid (Ms.few_rd hr0)
  have HRQ := Lib.hid (Ms.few_rd hr1)
  have HLEN0 := Lib.hid d0.few_len
  have HLEN1 := Lib.hid d1.few_len
  have HCAP0 := Lib.hid (Ms.few_cap hr0)
  have HCAP1 := Lib.hid (Ms.few_cap hr1)
  have HIP := Lib.hid (Ms.few_in hf0)
  have HIQ := Lib.hid (Ms.few_in hf1)
  clear b2 hf0 hf1 hr0 hr1
  rw [Ms.val_lit, Ms.val_lit]
  have e0 : d0.typ = d0.few.typ ∧ d0.code = d0.few.code ∧ d0.rest = d0.few.rest := ⟨rfl, rfl, rfl⟩
  have e1 : d1.typ = d1.few.typ ∧ d1.code = d1.few.code ∧ d1.rest = d1.few.rest := ⟨rfl, rfl, rfl⟩
  generalize hW : ((w.alloc (d0.obj (.slice A0 d0.b.length c0))).alloc (d1.obj (.slice A1 d1.b.length c1))) = W0 at HX0 HX1 HB HS
  unfold Ms.obj at hW
  rw [e0.1, e0.2.1, e0.2.2, e1.1, e1.2.1, e1.2.2] at hW ⊢
  clear e0 e1
  generalize d0.few = p at *
  generalize d1.few = q at *
  go_enter Try.func3, Try.ntmps3
  go_upto_region 1 with fail
  (try rw [hW])
  clear hW
  go_wp2_with fail
  refine HS.out.mono ?_
  rintro e w1 ⟨rfl, hl⟩
  have HX0N := Lib.hid (HX0.out.below hl)
  have HX1N := Lib.hid (HX1.out.below hl)
  have HBN := Lib.hid (below_to HB.out hl HB.out.size)
  clear HS hl HB HX0 HX1
  have HB := HBN
  have HX0 := HX0N
  have HX1 := HX1N
  clear HBN HX0N HX1N
  go_upto_region 2 with fail
  obtain ⟨M0, hM0⟩ : ∃ M : Int, ((d0.b.length : Nat) : Int) = M := ⟨_, rfl⟩
  obtain ⟨K0, hK0⟩ : ∃ K : Int, ((p.b.length : Nat) : Int) = K := ⟨_, rfl⟩
  have hx0 : (p.b.length : Nat) = min d0.b.length 2000 := HLEN0.out
  have hmin0 : ∀ W, (Builtin.min_ #[3, 3] 3 #[.int .i64 M0, .int .i64 2000]).run Try.prog W = .ok (.int .i64 K0) W := fun W => min_run (P := Try.prog) #[3, 3] 3 M0 2000 K0 (by omega) W
  have i1 : 0 ≤ K0 := by omega
  have i2 : ¬ K0 < 0 := by omega
  have i3 : K0 ≤ (c0 : Int) := by have := HCAP0.out; omega
  have i4 : K0.toNat = p.b.length := by omega
  clear hx0 hK0
  have k3 := HX0.out.cells.2.2.2
  have z3 := HX0.out.free 3
  go_upto_region 3 with fail
  have HXN : Hid (MsAt (w1.setCell ⟨w.heap.size, 3, none⟩ (.slice A0 p.b.length c0)) w.heap.size p (.slice A0 p.b.length c0)) := HX0.out.set3 _
  have HBN : Hid (Below w.heap.size w (w1.setCell ⟨w.heap.size, 3, none⟩ (.slice A0 p.b.length c0))) := HB.out.setCell (p := ⟨w.heap.size, 3, none⟩) (Nat.le_refl _) _
  have HX1N : Hid (MsAt (w1.setCell ⟨w.heap.size, 3, none⟩ (.slice A0 p.b.length c0)) (w.heap.size + 1) q (.slice A1 d1.b.length c1)) := set_block HX1.out (by omega) _
  clear hM0 hmin0 i1 i2 i3 i4 k3 z3 HX0 HB HX1
  generalize w1.setCell ⟨w.heap.size, 3, none⟩ (.slice A0 p.b.length c0) = W2 at *
  have HX0 := HXN
  have HB := HBN
  have HX1 := HX1N
  clear HXN HBN HX1N
  obtain ⟨M1, hM1⟩ : ∃ M : Int, ((d1.b.length : Nat) : Int) = M := ⟨_, rfl⟩
  obtain ⟨K1, hK1⟩ : ∃ K : Int, ((q.b.length : Nat) : Int) = K := ⟨_, rfl⟩
  have hx1 : (q.b.length : Nat) = min d1.b.length 2000 := HLEN1.out
  have hmin1 : ∀ W, (Builtin.min_ #[3, 3] 3 #[.int .i64 M1, .int .i64 2000]).run Try.prog W = .ok (.int .i64 K1) W := fun W => min_run (P := Try.prog) #[3, 3] 3 M1 2000 K1 (by omega) W
  have i1 : 0 ≤ K1 := by omega
  have i2 : ¬ K1 < 0 := by omega
  have i3 : K1 ≤ (c1 : Int) := by have := HCAP1.out; omega
  have i4 : K1.toNat = q.b.length := by omega
  clear hx1 hK1
  have k3 := HX1.out.cells.2.2.2
  have z3 := HX1.out.free 3
  go_upto_region 4 with fail
  have HXN : Hid (MsAt (W2.setCell ⟨(w.heap.size + 1), 3, none⟩ (.slice A1 q.b.length c1)) (w.heap.size + 1) q (.slice A1 q.b.length c1)) := HX1.out.set3 _
  have HBN : Hid (Below w.heap.size w (W2.setCell ⟨(w.heap.size + 1), 3, none⟩ (.slice A1 q.b.length c1))) := HB.out.setCell (p := ⟨(w.heap.size + 1), 3, none⟩) (Nat.le_succ _) _
  have HX0N : Hid (MsAt (W2.setCell ⟨(w.heap.size + 1), 3, none⟩ (.slice A1 q.b.length c1)) w.heap.size p (.slice A0 p.b.length c0)) := set_block HX0.out (by omega) _
  clear hM1 hmin1 i1 i2 i3 i4 k3 z3 HX1 HB HX0
  generalize W2.setCell ⟨(w.heap.size + 1), 3, none⟩ (.slice A1 q.b.length c1) = W3 at *
  have HX1 := HXN
  have HB := HBN
  have HX0 := HX0N
  clear HXN HBN HX0N
  have HTX := Lib.hid (Ms.bs_same HIP.out HIQ.out)
  have HEQ : Hid (∀ W, _) := fun W => refMs_eqB p q W
  obtain ⟨t, ht⟩ : ∃ t, msB p q = t := ⟨_, rfl⟩
  rw [ht] at HTX HEQ
  have X1 : Hid (Calls Try.prog 7 #[.agg #[.int .u8 p.typ, .int .u8 p.code, .int .u32 p.rest, .slice A0 p.b.length c0]] W3.drew fun e w' => ∃ b, e = .returned (.slice (some ⟨b, 0, none⟩) p.bs.length p.bs.length) ∧ W3.drew.heap.size ≤ b ∧ BAt w' b p.bs ∧ Below W3.drew.heap.size W3.drew w') := iBytes_any p HIP.out A0 c0 W3.drew (HRP.out.below (vbelow_dr HB.out))
  have X2 : Hid (∀ W, Below W3.heap.size W3 W → Calls Try.prog 7 #[.agg #[.int .u8 q.typ, .int .u8 q.code, .int .u32 q.rest, .slice A1 q.b.length c1]] W fun e w' => ∃ b, e = .returned (.slice (some ⟨b, 0, none⟩) q.bs.length q.bs.length) ∧ W.heap.size ≤ b ∧ BAt w' b q.bs ∧ Below W.heap.size W w') := fun W h => iBytes_any q HIQ.out A1 c1 W (HRQ.out.below (below_to HB.out h HB.out.size))
  have XP : Hid (∀ W, Below W3.heap.size W3 W → Calls Try.prog 8 #[.agg #[.int .u8 p.typ, .int .u8 p.code, .int .u32 p.rest, .slice A0 p.b.length c0]] W fun e w' => e = .returned (.agg #[.int .u32 p.typ, .int .u32 p.code, .int .u32 p.rest, .string (txt p.b)]) ∧ Below W.heap.size W w') := fun W h => iof_any p HIP.out A0 c0 W (HRP.out.below (below_to HB.out h HB.out.size))
  have XQ : Hid (∀ W, Below W3.heap.size W3 W → Calls Try.prog 8 #[.agg #[.int .u8 q.typ, .int .u8 q.code, .int .u32 q.rest, .slice A1 q.b.length c1]] W fun e w' => e = .returned (.agg #[.int .u32 q.typ, .int .u32 q.code, .int .u32 q.rest, .string (txt q.b)]) ∧ Below W.heap.size W w') := fun W h => iof_any q HIQ.out A1 c1 W (HRQ.out.below (below_to HB.out h HB.out.size))
  have KS : Hid (∀ W, Below W3.heap.size W3 W → W.cell? ⟨w.heap.size, 0, none⟩ = some (.int .u8 p.typ) ∧ W.cell? ⟨w.heap.size, 1, none⟩ = some (.int .u8 p.code) ∧ W.cell? ⟨w.heap.size, 2, none⟩ = some (.int .u32 p.rest) ∧ W.cell? ⟨w.heap.size, 3, none⟩ = some (.slice A0 p.b.length c0) ∧ W.cell? ⟨(w.heap.size + 1), 0, none⟩ = some (.int .u8 q.typ) ∧ W.cell? ⟨(w.heap.size + 1), 1, none⟩ = some (.int .u8 q.code) ∧ W.cell? ⟨(w.heap.size + 1), 2, none⟩ = some (.int .u32 q.rest) ∧ W.cell? ⟨(w.heap.size + 1), 3, none⟩ = some (.slice A1 q.b.length c1)) := fun W h => by
    obtain ⟨e0, e1, e2, e3⟩ := (HX0.out.below h).cells
    obtain ⟨f0, f1, f2, f3⟩ := (HX1.out.below h).cells
    exact ⟨e0, e1, e2, e3, f0, f1, f2, f3⟩
  have HT := HTX.out
  have HE := HEQ.out
  obtain ⟨tp, htp⟩ : ∃ tp, txt p.bs = tp := ⟨_, rfl⟩
  obtain ⟨tq, htq⟩ : ∃ tq, txt q.bs = tq := ⟨_, rfl⟩
  rw [htp, htq] at HT
  have CVP : Hid (∀ (b : Nat) (W0 W : World), BAt W0 b p.bs → Below W0.heap.size W0 W → (convert 23 9 (.slice (some ⟨b, 0, none⟩) p.bs.length p.bs.length)).run Try.prog W = .ok (.string tp) W) := fun b W0 W h hb => by
    rw [← htp]
    exact convert_rd (h.below hb).rd
  have CVQ : Hid (∀ (b : Nat) (W0 W : World), BAt W0 b q.bs → Below W0.heap.size W0 W → (convert 23 9 (.slice (some ⟨b, 0, none⟩) q.bs.length q.bs.length)).run Try.prog W = .ok (.string tq) W) := fun b W0 W h hb => by
    rw [← htq]
    exact convert_rd (h.below hb).rd
  clear htp htq HTX HEQ ht
  have HPB := Lib.hid (Eq.refl p.bs)
  have HQB := Lib.hid (Eq.refl q.bs)
  generalize txt p.b = up at *
  generalize txt q.b = uq at *
  obtain ⟨m0, hm0⟩ : ∃ m, p.bs.length = m := ⟨_, rfl⟩
  obtain ⟨m1, hm1⟩ : ∃ m, q.bs.length = m := ⟨_, rfl⟩
  rw [hm0] at X1 CVP
  simp only [hm1] at X2 CVQ
  have HNS : Hid (w.heap.size ≤ W3.heap.size) := HB.out.size
  clear hm0 hm1 HX0 HX1 HRP HRQ HIP HIQ HPB HQB
  generalize hn : w.heap.size = n at *
  have HW := Lib.hid hn
  clear hn
  cases t
  all_goals
    go_region_held_law (fun W => W.cell? ⟨n, 0, none⟩ = some (.int .u8 p.typ) ∧ W.cell? ⟨n, 1, none⟩ = some (.int .u8 p.code) ∧ W.cell? ⟨n, 2, none⟩ = some (.int .u32 p.rest) ∧ W.cell? ⟨n, 3, none⟩ = some (.slice A0 p.b.length c0) ∧ W.cell? ⟨(n + 1), 0, none⟩ = some (.int .u8 q.typ) ∧ W.cell? ⟨(n + 1), 1, none⟩ = some (.int .u8 q.code) ∧ W.cell? ⟨(n + 1), 2, none⟩ = some (.int .u32 q.rest) ∧ W.cell? ⟨(n + 1), 3, none⟩ = some (.slice A1 q.b.length c1))
      (first | assumption | exact KS.out _ (below_drew W3) | exact KS.out _ H4.out | exact KS.out _ H3.out | exact KS.out _ H2.out | exact KS.out _ H1.out)
      (first
        | (go_at_call 7; (with_reducible refine X1.out.mono ?_); rintro e w4 ⟨b1, rfl, _, hy1, hl1⟩; (have H1 := Lib.hid ((below_drew W3).trans hl1)); (have HY1 := Lib.hid hy1); (have v1 := CVP.out b1 _ _ hy1 (Below.refl _ _)); clear hl1 hy1)
        | (go_at_call 7; (with_reducible refine (X2.out _ H1.out).mono ?_); rintro e w5 ⟨b2, rfl, _, hy2, hl2⟩; (have H2 := Lib.hid (below_to H1.out hl2 H1.out.size)); (have HL2 := Lib.hid hl2); (have HY2 := Lib.hid hy2); (have v2 := CVQ.out b2 _ _ hy2 (Below.refl _ _)); (have v3 := CVP.out b1 _ _ HY1.out hl2); clear hl2 hy2)
        | (go_at_call 8; (with_reducible refine (XP.out _ H2.out).mono ?_); rintro e w6 ⟨rfl, hl3⟩; (have H3 := Lib.hid (below_to H2.out hl3 H2.out.size)); (have HL3 := Lib.hid hl3); (have v4 := CVQ.out b2 _ _ HY2.out hl3); (have v5 := CVP.out b1 _ _ HY1.out (below_to HL2.out hl3 HL2.out.size)); clear hl3)
        | (go_at_call 8; (with_reducible refine (XQ.out _ H3.out).mono ?_); rintro e w7 ⟨rfl, hl4⟩; (have H4 := Lib.hid (below_to H3.out hl4 H3.out.size)); (have v6 := CVQ.out b2 _ _ HY2.out (below_to HL3.out hl4 HL3.out.size)); (have v7 := CVP.out b1 _ _ HY1.out (below_to (below_to HL2.out HL3.out HL2.out.size) hl4 (below_to HL2.out HL3.out HL2.out.size).size)); clear hl4))
  all_goals (go_wp2_with fail)
  all_goals go_ret
  all_goals exact ⟨rfl, by rw [HW.out]; exact below_to HB.out H4.out HNS.out⟩
end Go.Proofs.Ytlhanaglhkmcfaa
namespace Go.Proofs.Ytlhanaglhkmcfaa
open Go.ChangeShapes Go.WideShapes Go.RowKit

set_option maxRecDepth 100000 in
theorem icmpUnlike_lifted (hc : ∀ (m0 : Ms) (A0 : Option Addr) (c0 : Nat) (m1 : Ms) (A1 : Option Addr) (c1 : Nat) (w : World), m0.Fit → Rd w (.slice A0 m0.b.length c0) m0.b → c0 ≤ 9223372036854775807 → m1.Fit → Rd w (.slice A1 m1.b.length c1) m1.b → c1 ≤ 9223372036854775807 → Calls Try.prog 3 #[m0.val (.slice A0 m0.b.length c0), m1.val (.slice A1 m1.b.length c1)] w fun e w' => e = .returned (.bool true) ∧ Below w.heap.size w w')
    (os : Os) (started : os.Started) (H : Type) (enc : TypeId × Value → H) :
    ReturnsInHanded {} Try.checked os 3 .any (Rows.icmpUnlikeSpec.pre6 enc Try.prog Try.f3 Rows.icmpUnlikeRow.domain false) (Rows.icmpUnlikeSpec.post enc Try.prog Try.f3 false true false false) := by
  refine returnsInHanded_of_change (C := Try.checked) ownGodebug started (by kernel_rfl) Try.func3
    (ChangeSpec.witness6 (enc := enc) (C := Try.checked) false ⟨#[], #[.agg #[.int .u8 0, .int .u8 0, .int .u32 0, .slice none 0 0], .agg #[.int .u8 0, .int .u8 0, .int .u32 0, .slice none 0 0]], []⟩ 8 (by kernel_rfl) (by kernel_rfl) (by kernel_rfl) (by kernel_rfl)) ?_
  intro W base args ds gs before hval0 hW _ _
  have hval : ∀ (j : Nat) t v, Try.f3.params[j]? = some t → args[j]? = some v → Value.okWide Try.prog W .any base t v := hval0
  have hW' := hW
  obtain ⟨p, q, hA0, hV, rfl, hfz, hnd⟩ := hW
  have hA : DataW.TrodAll enc Try.prog W 0 (fun _ => true) true Try.f3.params.toList args.toList ds p := hA0
  rw [Try.params3] at hA hval
  obtain ⟨v0, vs0, d0, ds0, p0, q0, hargs, rfl, rfl, h0, r0⟩ := trodAll_cons hA
  obtain ⟨v1, vs1, d1, ds1, p1, q1, rfl, rfl, rfl, h1, r1⟩ := trodAll_cons r0
  obtain ⟨rfl, rfl, rfl⟩ := trodAll_nil r1
  obtain rfl : args = #[v0, v1] := by cases args; simpa using hargs
  obtain ⟨rfl, rfl⟩ := trodVars_none hV
  obtain ⟨m0, A0, c0, rfl, b0, e0, a0⟩ := open_ms (hval 0 25 v0 rfl rfl) h0
  obtain ⟨m1, A1, c1, rfl, b1, e1, a1⟩ := open_ms (hval 1 25 v1 rfl rfl) h1
  refine (hc m0 A0 c0 m1 A1 c1 W a0 e0 b0 a1 e1 b1).mono fun e W' ⟨he, hb⟩ => ?_
  subst he
  exact ⟨_, rfl, law_post rfl rfl rfl (by rw [Try.params3]; intro t ht; simp at ht; (try rcases ht with rfl) <;> (try subst ht) <;> exact ⟨by kernel_rfl, by rw [typesSize]; decide⟩) hW' hb⟩
theorem icmpUnlike_row (hc : ∀ (m0 : Ms) (A0 : Option Addr) (c0 : Nat) (m1 : Ms) (A1 : Option Addr) (c1 : Nat) (w : World), m0.Fit → Rd w (.slice A0 m0.b.length c0) m0.b → c0 ≤ 9223372036854775807 → m1.Fit → Rd w (.slice A1 m1.b.length c1) m1.b → c1 ≤ 9223372036854775807 → Calls Try.prog 3 #[m0.val (.slice A0 m0.b.length c0), m1.val (.slice A1 m1.b.length c1)] w fun e w' => e = .returned (.bool true) ∧ Below w.heap.size w w') : Rows.IcmpUnlikeSaid :=
  OpenClaim.holds_of_wide 3 Try.f3 rfl rfl rfl rfl rfl rfl rfl ⟨rfl, rfl, rfl, rfl, rfl⟩ rfl rfl rfl rfl rfl (by kernel_rfl) Try.func3 (by kernel_rfl)
    (of_decide_eq_true (by kernel_rfl)) (by unfold Func.isWrapper; rw [if_neg (of_decide_eq_false (by kernel_rfl))]; exact ⟨rfl, rfl⟩)
    (fun os started H enc _ => icmpUnlike_lifted hc os started H enc)
end Go.Proofs.Ytlhanaglhkmcfaa
namespace Go.Proofs.Ytlhanaglhkmcfaa
theorem icmpUnlike_holds : Rows.IcmpUnlikeSaid := icmpUnlike_row icmpUnlike_any
end Go.Proofs.Ytlhanaglhkmcfaa
