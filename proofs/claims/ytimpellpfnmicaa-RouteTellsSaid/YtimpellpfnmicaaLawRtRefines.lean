/-
  What is proved: RouteRefines by contract: the law returns true, and older memory is as it was.
  Conditions: the addresses fit their type.
-/
import Derived.Test.YtimpellpfnmicaaRtShown
import Derived.Laws.Bits64b
namespace Go.Proofs.Ytimpellpfnmicaa
open Go.RowKit

theorem cut_same (x b : Int) (hx : U32 x) (w : World) : Calls Try.prog 19 #[.int .u32 x, .int .i64 b] w fun e w' => e = .returned (.int .u32 (cutI x b)) ∧ w = w' :=
  (cut_any x b hx w).mono fun _ _ ⟨h1, h2⟩ => ⟨h1, h2.symm⟩
theorem and_31 (x : Int) : bits .and .i64 x 31 = x % 32 := by
  have h2 : (BitVec.ofInt 64 (31 : Int)).toNat = 2 ^ 5 - 1 := rfl
  show IntKind.i64.wrap ((BitVec.ofInt 64 x &&& BitVec.ofInt 64 (31 : Int)).toNat : Int) = _
  rw [BitVec.toNat_and, h2, Nat.and_two_pow_sub_one_eq_mod, BitVec.toNat_ofInt, IntKind.wrap_i64]
  omega
theorem Tab.ne_cell {w : World} {p b : Nat} {L : List Rt} (h : Tab w p b L) {a : Addr} {v : Value} (hc : w.cell? a = some v) : a.block ≠ b := by
  obtain ⟨D, ⟨es, clock, hb, _⟩, _⟩ := h.own
  intro e
  rw [← e] at hb
  unfold World.cell? at hc
  rw [hb] at hc
  cases hc
theorem Tab.cell_grown {w w' : World} {p b : Nat} {L : List Rt} (h : Tab w p b L) (hg : w.grownBy w' (some b)) {a : Addr} {v : Value} (hc : w.cell? a = some v) : w'.cell? a = some v := by
  rw [← hc]
  unfold World.cell?
  rw [hg.block a.block (World.block_lt_of_cell? w _ hc) (fun e => h.ne_cell hc (Option.some.inj e))]
theorem RtAt.grown {w w' : World} {p b g : Nat} {L : List Rt} {r : Rt} (h : RtAt w g r) (hT : Tab w p b L) (hg : w.grownBy w' (some b)) : RtAt w' g r :=
  ⟨hT.cell_grown hg h.c0, hT.cell_grown hg h.c1, hT.cell_grown hg h.c2, hT.cell_grown hg h.c3⟩
theorem fnd_eq {L : List Rt} (hs : Srt L) (hr : ∀ r ∈ L, r.Right) {x : Int} {r : Rt} (hm : r ∈ L) (hc : r.d = cutI x r.b) (hmax : ∀ s ∈ L, s.d = cutI x s.b → s.b ≤ r.b) : fnd L x 33 = some r := by
  have hb := (hr r hm).b1
  have hb0 := (hr r hm).b0
  cases e : fnd L x 33 with
  | none => exact (fnd_none e r hm hc hb0 (by omega)).elim
  | some s =>
    obtain ⟨h1, h2, h3, h4, h5⟩ := fnd_some e
    have a1 := hmax s h1 h4
    have a2 := h5 r hm hc (by omega)
    have a3 : s.b = r.b := by omega
    rw [srt_one hs h1 hm ⟨by rw [h4, hc, a3], a3⟩ ⟨rfl, rfl⟩]
theorem fnd_no {L : List Rt} {x : Int} (h : ∀ s ∈ L, s.d ≠ cutI x s.b) : fnd L x 33 = none := by
  cases e : fnd L x 33 with
  | none => rfl
  | some s =>
    obtain ⟨h1, _, _, h4, _⟩ := fnd_some e
    exact absurd h4 (h s h1)

/-- The two routes of the law. -/
def rfX (d a : Int) : Rt := ⟨cutI d a, a, 0, 1⟩
def rfY (d b : Int) : Rt := ⟨cutI d b, b, 0, 2⟩
structure RfIn (d a b : Int) : Prop where
  hd : U32 d
  ha : 0 ≤ a
  hab : a < b
  hb : b ≤ 32
section
variable {d a b : Int} (H : RfIn d a b)
include H
theorem rfX_right : (rfX d a).Right := ⟨⟨cut_u32 H.hd a, (show I64 a from ⟨by have := H.ha; omega, by have := H.hab; have := H.hb; omega⟩), (show U32 0 from ⟨by decide, by decide⟩), (show I64 1 from ⟨by decide, by decide⟩)⟩, H.ha, (show a ≤ 32 by have := H.hab; have := H.hb; omega), (show cutI (cutI d a) a = cutI d a by rw [cut_cut, Int.min_self])⟩
theorem rfY_right : (rfY d b).Right := ⟨⟨cut_u32 H.hd b, (show I64 b from ⟨by have := H.ha; have := H.hab; omega, by have := H.hb; omega⟩), (show U32 0 from ⟨by decide, by decide⟩), (show I64 2 from ⟨by decide, by decide⟩)⟩, (show 0 ≤ b by have := H.ha; have := H.hab; omega), H.hb, (show cutI (cutI d b) b = cutI d b by rw [cut_cut, Int.min_self])⟩
theorem rf_le : cutI d a ≤ cutI d b := by
  have h := (cut_le (cut_u32 H.hd b).1 a).2
  rwa [cut_cut, Int.min_eq_right (by have := H.hab; omega)] at h
theorem rf_lo : Lo (rfX d a) (rfY d b) := by
  have h := rf_le H
  have h2 := H.hab
  unfold Lo rfX rfY
  simp only
  omega
theorem rf_ok1 : addCode [] (rfX d a) = 0 ∧ addL [] (rfX d a) = [rfX d a] := by
  have h := (Rt.ok_iff (rfX_right H).i).2 (rfX_right H)
  unfold addCode addL fullB
  rw [h]
  exact ⟨rfl, rfl⟩
theorem rf_ok2 : addCode [rfX d a] (rfY d b) = 0 ∧ addL [rfX d a] (rfY d b) = [rfX d a, rfY d b] := by
  have h := (Rt.ok_iff (rfY_right H).i).2 (rfY_right H)
  have hf : fullB [rfX d a] (rfY d b) = false := by unfold fullB; simp
  unfold addCode addL
  rw [h, hf]
  exact ⟨rfl, (by simp only [if_true, Bool.false_eq_true, if_false, putL]; rw [if_pos (rf_lo H)])⟩
theorem rf_srt : Srt [rfX d a, rfY d b] := List.pairwise_cons.2 ⟨fun s hs => by simp at hs; subst hs; exact rf_lo H, List.pairwise_cons.2 ⟨by simp, List.Pairwise.nil⟩⟩
theorem rf_rights : ∀ r ∈ [rfX d a, rfY d b], r.Right := by
  intro r hr
  simp at hr
  rcases hr with rfl | rfl
  · exact rfX_right H
  · exact rfY_right H
theorem rf_wide {x : Int} (h : cutI x b = cutI d b) : cutI x a = cutI d a := by
  have h1 : cutI (cutI x b) a = cutI (cutI d b) a := by rw [h]
  rwa [cut_cut, cut_cut, Int.min_eq_right (by have := H.hab; omega)] at h1
theorem rf_fY {x : Int} (h : cutI x b = cutI d b) : fnd [rfX d a, rfY d b] x 33 = some (rfY d b) :=
  fnd_eq (rf_srt H) (rf_rights H) (by simp) h.symm (fun s hs _ => by
    simp at hs
    rcases hs with rfl | rfl
    · exact (show a ≤ b by have := H.hab; omega)
    · exact Int.le_refl _)
theorem rf_fX {x : Int} (h : cutI x a = cutI d a) (hn : cutI x b ≠ cutI d b) : fnd [rfX d a, rfY d b] x 33 = some (rfX d a) :=
  fnd_eq (rf_srt H) (rf_rights H) (by simp) h.symm (fun s hs hc => by
    simp at hs
    rcases hs with rfl | rfl
    · exact Int.le_refl _
    · exact absurd hc.symm hn)
end
theorem rf_f0 {d a b x : Int} (h : cutI x a ≠ cutI d a) (hn : cutI x b ≠ cutI d b) : fnd [rfX d a, rfY d b] x 33 = none :=
  fnd_no (fun s hs => by
    simp at hs
    rcases hs with rfl | rfl
    · exact fun e => h e.symm
    · exact fun e => hn e.symm)

set_option maxRecDepth 100000 in
set_option maxHeartbeats 4000000 in
theorem routeRefines_con (d n1 n2 x : Int) (w : World) (hd : U32 d) (hx : U32 x) :
    Calls Try.prog 8 #[.int .u32 d, .int .i64 n1, .int .i64 n2, .int .u32 x] w fun e w' => e = .returned (.bool true) ∧ Below w.heap.size w w' := by
  have X0 := Lib.hid (fun W => shown_any W)
  have HN := Lib.hid (fun W => new_any W)
  obtain ⟨a, ha⟩ : ∃ a, bits .and .i64 n1 31 = a := ⟨_, rfl⟩
  obtain ⟨c, hc⟩ : ∃ c, bits .and .i64 n2 31 = c := ⟨_, rfl⟩
  have ha0 : 0 ≤ a := by rw [← ha, and_31]; omega
  have ha1 : a ≤ 31 := by rw [← ha, and_31]; omega
  have hc0 : 0 ≤ c := by rw [← hc, and_31]; omega
  obtain ⟨m, hm⟩ : ∃ m, c.tmod (32 - a) = m := ⟨_, rfl⟩
  have hm0 : 0 ≤ m := by rw [← hm, Int.tmod_eq_emod_of_nonneg hc0]; exact Int.emod_nonneg _ (by omega)
  have hm1 : m < 32 - a := by rw [← hm, Int.tmod_eq_emod_of_nonneg hc0]; exact Int.emod_lt_of_pos _ (by omega)
  obtain ⟨b, hb⟩ : ∃ b, a + 1 + m = b := ⟨_, rfl⟩
  have HR : Hid (RfIn d a b) := Lib.hid ⟨hd, ha0, by omega, by omega⟩
  have Hx := Lib.hid hx
  clear hd hx
  have hz : (32 - a == 0) = false := by rw [beq_eq_false_iff_ne]; omega
  go_enter Try.func8, Try.ntmps8
  go_upto_region 7 with (first
    | (go_at_call 9; refine (X0.out _).mono ?_; rintro e w1 ⟨rfl, hB⟩; (have B1 := Lib.hid hB); clear hB)
    | (go_at_call 10; refine (HN.out _).mono ?_; rintro e w2 ⟨p, q, rfl, hT, hp, hq, hB⟩; (have T0 := Lib.hid hT); (have B0 := Lib.hid hB); (have P0 := Lib.hid (And.intro hp hq)); clear hT hB hp hq))
  clear ha hc ha0 ha1 hc0 hm hm0 hm1 hb hz
  have B2 := Lib.hid (below_to B1.out B0.out B1.out.size)
  have Q0 : Hid (w.heap.size ≤ q) := Lib.hid (Nat.le_trans B1.out.size P0.out.2)
  have C1 := Lib.hid (fun W => cut_same d a HR.out.hd W)
  have C2 := Lib.hid (fun W => cut_same d b HR.out.hd W)
  have C3 := Lib.hid (fun W => cut_same x a Hx.out W)
  have C4 := Lib.hid (fun W => cut_same x b Hx.out W)
  have D1 := Lib.hid ((Below.refl _ w2).alloc (Nat.le_refl _) (Obj.cells #[Value.int IntKind.u32 (cutI d a), Value.int IntKind.i64 a, Value.int IntKind.u32 0, Value.int IntKind.i64 1] 33))
  have R1 := Lib.hid (RtAt.of_heap (r := rfX d a) (heap_alloc_new w2 (Obj.cells #[Value.int IntKind.u32 (cutI d a), Value.int IntKind.i64 a, Value.int IntKind.u32 0, Value.int IntKind.i64 1] 33)))
  have D2 := Lib.hid (D1.out.alloc D1.out.size (Obj.cells #[Value.int IntKind.u32 (cutI d b), Value.int IntKind.i64 b, Value.int IntKind.u32 0, Value.int IntKind.i64 2] 33))
  have R2 := Lib.hid (RtAt.of_heap (r := rfY d b) (heap_alloc_new (w2.alloc (Obj.cells #[Value.int IntKind.u32 (cutI d a), Value.int IntKind.i64 a, Value.int IntKind.u32 0, Value.int IntKind.i64 1] 33)) (Obj.cells #[Value.int IntKind.u32 (cutI d b), Value.int IntKind.i64 b, Value.int IntKind.u32 0, Value.int IntKind.i64 2] 33)))
  have R1' := Lib.hid (R1.out.below ((Below.refl _ (w2.alloc (Obj.cells #[Value.int IntKind.u32 (cutI d a), Value.int IntKind.i64 a, Value.int IntKind.u32 0, Value.int IntKind.i64 1] 33))).alloc (Nat.le_refl _) (Obj.cells #[Value.int IntKind.u32 (cutI d b), Value.int IntKind.i64 b, Value.int IntKind.u32 0, Value.int IntKind.i64 2] 33)))
  rw [World.size_alloc] at R2
  go_upto_region 9 with (first
    | (go_at_call 19; (with_reducible refine (C1.out _).mono ?_); rintro e w3 ⟨rfl, rfl⟩)
    | (go_at_call 19; (with_reducible refine (C2.out _).mono ?_); rintro e w3 ⟨rfl, rfl⟩))
  have T1 := Lib.hid (T0.out.below D2.out)
  have B3 := Lib.hid (below_to B2.out D2.out B2.out.size)
  generalize (w2.alloc (Obj.cells #[Value.int IntKind.u32 (cutI d a), Value.int IntKind.i64 a, Value.int IntKind.u32 0, Value.int IntKind.i64 1] 33)).alloc (Obj.cells #[Value.int IntKind.u32 (cutI d b), Value.int IntKind.i64 b, Value.int IntKind.u32 0, Value.int IntKind.i64 2] 33) = w3 at T1 B3 R2 R1' ⊢
  generalize w2.heap.size = g1 at R2 R1' ⊢
  clear D1 R1 D2 C1 C2
  obtain ⟨c0, c1, c2, c3⟩ : w3.cell? ⟨g1, 0, none⟩ = some (.int .u32 (cutI d a)) ∧ w3.cell? ⟨g1, 1, none⟩ = some (.int .i64 a) ∧ w3.cell? ⟨g1, 2, none⟩ = some (.int .u32 0) ∧ w3.cell? ⟨g1, 3, none⟩ = some (.int .i64 1) := ⟨R1'.out.c0, R1'.out.c1, R1'.out.c2, R1'.out.c3⟩
  have A1 := Lib.hid (add_any [] (rfX d a) (rfX_right HR.out).i p q w3 T1.out)
  rw [(rf_ok1 HR.out).1, (rf_ok1 HR.out).2] at A1
  unfold Rt.val rfX at A1
  simp only at A1
  go_upto_region 10 with (go_at_call 20; refine A1.out.mono ?_; rintro e w4 ⟨rfl, hT, hG⟩; (have T2 := Lib.hid hT); (have G2 := Lib.hid hG); clear hT hG)
  change Hid (Tab _ _ _ [rfX d a]) at T2
  have B4 := Lib.hid (below_grown B3.out B3.out.size G2.out Q0.out)
  have R14 := Lib.hid (R1'.out.grown T1.out G2.out)
  have R24 := Lib.hid (R2.out.grown T1.out G2.out)
  clear A1 c0 c1 c2 c3
  obtain ⟨c0, c1, c2, c3⟩ : w4.cell? ⟨g1 + 1, 0, none⟩ = some (.int .u32 (cutI d b)) ∧ w4.cell? ⟨g1 + 1, 1, none⟩ = some (.int .i64 b) ∧ w4.cell? ⟨g1 + 1, 2, none⟩ = some (.int .u32 0) ∧ w4.cell? ⟨g1 + 1, 3, none⟩ = some (.int .i64 2) := ⟨R24.out.c0, R24.out.c1, R24.out.c2, R24.out.c3⟩
  have A2 := Lib.hid (add_any [rfX d a] (rfY d b) (rfY_right HR.out).i p q w4 T2.out)
  rw [(rf_ok2 HR.out).1, (rf_ok2 HR.out).2] at A2
  unfold Rt.val at A2
  change Hid (Calls _ _ #[_, .agg #[.int .u32 (cutI d b), .int .i64 b, .int .u32 0, .int .i64 2]] _ _) at A2
  go_upto_region 11 with (go_at_call 20; refine A2.out.mono ?_; rintro e w5 ⟨rfl, hT, hG⟩; (have T3 := Lib.hid hT); (have G3 := Lib.hid hG); clear hT hG)
  have B5 := Lib.hid (below_grown B4.out B4.out.size G3.out Q0.out)
  have R15 := Lib.hid (R14.out.grown T2.out G3.out)
  have R25 := Lib.hid (R24.out.grown T2.out G3.out)
  clear A2 c0 c1 c2 c3 R14 R24 R1' R2
  obtain ⟨r, hr⟩ : ∃ r : Rt, (fnd [rfX d a, rfY d b] x 33).getD Rt.zero = r := ⟨_, rfl⟩
  obtain ⟨is, his⟩ : ∃ is : Bool, (fnd [rfX d a, rfY d b] x 33).isSome = is := ⟨_, rfl⟩
  have F1 := Lib.hid (find_any [rfX d a, rfY d b] x Hx.out p q w5 T3.out)
  rw [hr, his] at F1
  unfold Rt.val at F1
  go_upto_region 12 with (go_at_call 15; refine F1.out.mono ?_; rintro e w6 ⟨rfl, hB⟩; (have E6 := Lib.hid hB); clear hB)
  clear F1
  have D6 := Lib.hid ((Below.refl _ w6).alloc (Nat.le_refl _) (Obj.cells #[Value.int IntKind.u32 r.d, Value.int IntKind.i64 r.b, Value.int IntKind.u32 r.v, Value.int IntKind.i64 r.o] 33))
  have B6 := Lib.hid (below_to B5.out (below_to E6.out D6.out E6.out.size) B5.out.size)
  have R16 := Lib.hid ((R15.out.below E6.out).below D6.out)
  have R26 := Lib.hid ((R25.out.below E6.out).below D6.out)
  have R36 := Lib.hid (RtAt.of_heap (r := r) (heap_alloc_new w6 (Obj.cells #[Value.int IntKind.u32 r.d, Value.int IntKind.i64 r.b, Value.int IntKind.u32 r.v, Value.int IntKind.i64 r.o] 33)))
  have T6 := Lib.hid ((T3.out.below E6.out).below D6.out)
  generalize w6.alloc (Obj.cells #[Value.int IntKind.u32 r.d, Value.int IntKind.i64 r.b, Value.int IntKind.u32 r.v, Value.int IntKind.i64 r.o] 33) = w7 at B6 R16 R26 R36 T6 ⊢
  generalize w6.heap.size = g3 at R36 ⊢
  clear D6 E6 R15 R25 T3 T2 T1 T0 G2 G3 B5 B4 B3 B2 B1 B0 P0
  obtain ⟨c0, c1, c2, c3⟩ : w7.cell? ⟨g1, 0, none⟩ = some (.int .u32 (cutI d a)) ∧ w7.cell? ⟨g1, 1, none⟩ = some (.int .i64 a) ∧ w7.cell? ⟨g1, 2, none⟩ = some (.int .u32 0) ∧ w7.cell? ⟨g1, 3, none⟩ = some (.int .i64 1) := ⟨R16.out.c0, R16.out.c1, R16.out.c2, R16.out.c3⟩
  obtain ⟨e0, e1, e2, e3⟩ : w7.cell? ⟨g1 + 1, 0, none⟩ = some (.int .u32 (cutI d b)) ∧ w7.cell? ⟨g1 + 1, 1, none⟩ = some (.int .i64 b) ∧ w7.cell? ⟨g1 + 1, 2, none⟩ = some (.int .u32 0) ∧ w7.cell? ⟨g1 + 1, 3, none⟩ = some (.int .i64 2) := ⟨R26.out.c0, R26.out.c1, R26.out.c2, R26.out.c3⟩
  have F2 := Lib.hid (fun W h => find_any [rfX d a, rfY d b] d HR.out.hd p q W (T6.out.below h))
  rw [rf_fY HR.out rfl] at F2
  simp only [Option.getD_some, Option.isSome_some, Rt.val] at F2
  change Hid (∀ W, Below w7.heap.size w7 W → Calls _ _ _ _ (fun e w' => e = .returned (.tuple #[.agg #[.int .u32 (cutI d b), .int .i64 b, .int .u32 0, .int .i64 2], .bool true]) ∧ _)) at F2
  have Hr := Lib.hid hr
  have His := Lib.hid his
  clear hr his
  have C3' := Lib.hid (fun W => cut_any x a Hx.out W)
  have C4' := Lib.hid (fun W => cut_any x b Hx.out W)
  clear C3 C4
  by_cases hn : cutI x b = cutI d b
  · have hw := rf_wide HR.out hn
    have ho : r.o = 2 := by rw [← Hr.out, rf_fY HR.out hn]; rfl
    obtain rfl : is = true := by rw [← His.out, rf_fY HR.out hn]; rfl
    have qn : (cutI x b == cutI d b) = true := beq_iff_eq.2 hn
    have qw : (cutI x a == cutI d a) = true := beq_iff_eq.2 hw
    have qo : (r.o == 2) = true := beq_iff_eq.2 ho
    clear hn hw ho
    go_quiet ((go_at_call 19; exact Calls.quiet_of_same (C3'.out _)))
    have B7 := Lib.hid (below_dN B6.out nq)
    have T7 := Lib.hid (below_dN (Below.refl w7.heap.size w7) nq)
    have R17 := Lib.hid (R26.out.drewN nq)
    have R37 := Lib.hid (R36.out.drewN nq)
    clear c0 c1 c2 c3 e0 e1 e2 e3
    generalize w7.drewN nq = w8 at B7 T7 R17 R37 ⊢
    obtain ⟨e0, e1, e2, e3⟩ : w8.cell? ⟨g1 + 1, 0, none⟩ = some (.int .u32 (cutI d b)) ∧ w8.cell? ⟨g1 + 1, 1, none⟩ = some (.int .i64 b) ∧ w8.cell? ⟨g1 + 1, 2, none⟩ = some (.int .u32 0) ∧ w8.cell? ⟨g1 + 1, 3, none⟩ = some (.int .i64 2) := ⟨R17.out.c0, R17.out.c1, R17.out.c2, R17.out.c3⟩
    go_upto_region 13 with fail
    go_quiet ((go_at_call 19; exact Calls.quiet_of_same (C4'.out _)))
    have B7' := Lib.hid (below_dN B7.out nq)
    have T7' := Lib.hid (below_dN T7.out nq)
    have R27 := Lib.hid (R17.out.drewN nq)
    have R37' := Lib.hid (R37.out.drewN nq)
    clear e0 e1 e2 e3
    generalize w8.drewN nq = w8' at B7' T7' R27 R37' ⊢
    go_upto_region 20 with (go_at_call 15; refine (F2.out _ T7'.out).mono ?_; rintro e w9 ⟨rfl, hB⟩; (have E9 := Lib.hid hB); clear hB)
    have D9 := Lib.hid ((Below.refl _ w9).alloc (Nat.le_refl _) (Obj.cells #[Value.int IntKind.u32 (cutI d b), Value.int IntKind.i64 b, Value.int IntKind.u32 0, Value.int IntKind.i64 2] 33))
    have R28 := Lib.hid ((R27.out.below E9.out).below D9.out)
    have R38 := Lib.hid ((R37'.out.below E9.out).below D9.out)
    have R48 := Lib.hid (RtAt.of_heap (r := rfY d b) (heap_alloc_new w9 (Obj.cells #[Value.int IntKind.u32 (cutI d b), Value.int IntKind.i64 b, Value.int IntKind.u32 0, Value.int IntKind.i64 2] 33)))
    have B8 := Lib.hid (below_to B7'.out (below_to E9.out D9.out E9.out.size) B7'.out.size)
    generalize w9.alloc (Obj.cells #[Value.int IntKind.u32 (cutI d b), Value.int IntKind.i64 b, Value.int IntKind.u32 0, Value.int IntKind.i64 2] 33) = w10 at R28 R38 R48 B8 ⊢
    generalize w9.heap.size = g4 at R48 ⊢
    obtain ⟨c0, c1, c2, c3⟩ : w10.cell? ⟨g1 + 1, 0, none⟩ = some (.int .u32 (cutI d b)) ∧ w10.cell? ⟨g1 + 1, 1, none⟩ = some (.int .i64 b) ∧ w10.cell? ⟨g1 + 1, 2, none⟩ = some (.int .u32 0) ∧ w10.cell? ⟨g1 + 1, 3, none⟩ = some (.int .i64 2) := ⟨R28.out.c0, R28.out.c1, R28.out.c2, R28.out.c3⟩
    obtain ⟨e0, e1, e2, e3⟩ : w10.cell? ⟨g3, 0, none⟩ = some (.int .u32 r.d) ∧ w10.cell? ⟨g3, 1, none⟩ = some (.int .i64 r.b) ∧ w10.cell? ⟨g3, 2, none⟩ = some (.int .u32 r.v) ∧ w10.cell? ⟨g3, 3, none⟩ = some (.int .i64 r.o) := ⟨R38.out.c0, R38.out.c1, R38.out.c2, R38.out.c3⟩
    obtain ⟨k0, k1, k2, k3⟩ : w10.cell? ⟨g4, 0, none⟩ = some (.int .u32 (cutI d b)) ∧ w10.cell? ⟨g4, 1, none⟩ = some (.int .i64 b) ∧ w10.cell? ⟨g4, 2, none⟩ = some (.int .u32 0) ∧ w10.cell? ⟨g4, 3, none⟩ = some (.int .i64 2) := ⟨R48.out.c0, R48.out.c1, R48.out.c2, R48.out.c3⟩
    go_wp2_with fail
    go_ret
    exact ⟨rfl, B8.out⟩
  · by_cases hw : cutI x a = cutI d a
    · have ho : r.o = 1 := by rw [← Hr.out, rf_fX HR.out hw hn]; rfl
      obtain rfl : is = true := by rw [← His.out, rf_fX HR.out hw hn]; rfl
      have qn : (cutI x b == cutI d b) = false := beq_eq_false_iff_ne.2 hn
      have qw : (cutI x a == cutI d a) = true := beq_iff_eq.2 hw
      have qo : (r.o == 1) = true := beq_iff_eq.2 ho
      clear hn hw ho
      go_quiet ((go_at_call 19; exact Calls.quiet_of_same (C3'.out _)))
      have B7 := Lib.hid (below_dN B6.out nq)
      have T7 := Lib.hid (below_dN (Below.refl w7.heap.size w7) nq)
      have R17 := Lib.hid (R26.out.drewN nq)
      have R37 := Lib.hid (R36.out.drewN nq)
      clear c0 c1 c2 c3 e0 e1 e2 e3
      generalize w7.drewN nq = w8 at B7 T7 R17 R37 ⊢
      obtain ⟨e0, e1, e2, e3⟩ : w8.cell? ⟨g1 + 1, 0, none⟩ = some (.int .u32 (cutI d b)) ∧ w8.cell? ⟨g1 + 1, 1, none⟩ = some (.int .i64 b) ∧ w8.cell? ⟨g1 + 1, 2, none⟩ = some (.int .u32 0) ∧ w8.cell? ⟨g1 + 1, 3, none⟩ = some (.int .i64 2) := ⟨R17.out.c0, R17.out.c1, R17.out.c2, R17.out.c3⟩
      go_upto_region 13 with fail
      go_quiet ((go_at_call 19; exact Calls.quiet_of_same (C4'.out _)))
      have B7' := Lib.hid (below_dN B7.out nq)
      have T7' := Lib.hid (below_dN T7.out nq)
      have R27 := Lib.hid (R17.out.drewN nq)
      have R37' := Lib.hid (R37.out.drewN nq)
      clear e0 e1 e2 e3
      generalize w8.drewN nq = w8' at B7' T7' R27 R37' ⊢
      go_upto_region 20 with (go_at_call 15; refine (F2.out _ T7'.out).mono ?_; rintro e w9 ⟨rfl, hB⟩; (have E9 := Lib.hid hB); clear hB)
      have D9 := Lib.hid ((Below.refl _ w9).alloc (Nat.le_refl _) (Obj.cells #[Value.int IntKind.u32 (cutI d b), Value.int IntKind.i64 b, Value.int IntKind.u32 0, Value.int IntKind.i64 2] 33))
      have R28 := Lib.hid ((R27.out.below E9.out).below D9.out)
      have R38 := Lib.hid ((R37'.out.below E9.out).below D9.out)
      have R48 := Lib.hid (RtAt.of_heap (r := rfY d b) (heap_alloc_new w9 (Obj.cells #[Value.int IntKind.u32 (cutI d b), Value.int IntKind.i64 b, Value.int IntKind.u32 0, Value.int IntKind.i64 2] 33)))
      have B8 := Lib.hid (below_to B7'.out (below_to E9.out D9.out E9.out.size) B7'.out.size)
      generalize w9.alloc (Obj.cells #[Value.int IntKind.u32 (cutI d b), Value.int IntKind.i64 b, Value.int IntKind.u32 0, Value.int IntKind.i64 2] 33) = w10 at R28 R38 R48 B8 ⊢
      generalize w9.heap.size = g4 at R48 ⊢
      obtain ⟨c0, c1, c2, c3⟩ : w10.cell? ⟨g1 + 1, 0, none⟩ = some (.int .u32 (cutI d b)) ∧ w10.cell? ⟨g1 + 1, 1, none⟩ = some (.int .i64 b) ∧ w10.cell? ⟨g1 + 1, 2, none⟩ = some (.int .u32 0) ∧ w10.cell? ⟨g1 + 1, 3, none⟩ = some (.int .i64 2) := ⟨R28.out.c0, R28.out.c1, R28.out.c2, R28.out.c3⟩
      obtain ⟨e0, e1, e2, e3⟩ : w10.cell? ⟨g3, 0, none⟩ = some (.int .u32 r.d) ∧ w10.cell? ⟨g3, 1, none⟩ = some (.int .i64 r.b) ∧ w10.cell? ⟨g3, 2, none⟩ = some (.int .u32 r.v) ∧ w10.cell? ⟨g3, 3, none⟩ = some (.int .i64 r.o) := ⟨R38.out.c0, R38.out.c1, R38.out.c2, R38.out.c3⟩
      obtain ⟨k0, k1, k2, k3⟩ : w10.cell? ⟨g4, 0, none⟩ = some (.int .u32 (cutI d b)) ∧ w10.cell? ⟨g4, 1, none⟩ = some (.int .i64 b) ∧ w10.cell? ⟨g4, 2, none⟩ = some (.int .u32 0) ∧ w10.cell? ⟨g4, 3, none⟩ = some (.int .i64 2) := ⟨R48.out.c0, R48.out.c1, R48.out.c2, R48.out.c3⟩
      go_wp2_with fail
      go_ret
      exact ⟨rfl, B8.out⟩
    · have ho : r.o = 0 := by rw [← Hr.out, rf_f0 hw hn]; rfl
      obtain rfl : is = false := by rw [← His.out, rf_f0 hw hn]; rfl
      have qn : (cutI x b == cutI d b) = false := beq_eq_false_iff_ne.2 hn
      have qw : (cutI x a == cutI d a) = false := beq_eq_false_iff_ne.2 hw
      have qo : (r.o == 0) = true := beq_iff_eq.2 ho
      clear hn hw ho
      go_quiet ((go_at_call 19; exact Calls.quiet_of_same (C3'.out _)))
      have B7 := Lib.hid (below_dN B6.out nq)
      have T7 := Lib.hid (below_dN (Below.refl w7.heap.size w7) nq)
      have R17 := Lib.hid (R26.out.drewN nq)
      have R37 := Lib.hid (R36.out.drewN nq)
      clear c0 c1 c2 c3 e0 e1 e2 e3
      generalize w7.drewN nq = w8 at B7 T7 R17 R37 ⊢
      obtain ⟨e0, e1, e2, e3⟩ : w8.cell? ⟨g1 + 1, 0, none⟩ = some (.int .u32 (cutI d b)) ∧ w8.cell? ⟨g1 + 1, 1, none⟩ = some (.int .i64 b) ∧ w8.cell? ⟨g1 + 1, 2, none⟩ = some (.int .u32 0) ∧ w8.cell? ⟨g1 + 1, 3, none⟩ = some (.int .i64 2) := ⟨R17.out.c0, R17.out.c1, R17.out.c2, R17.out.c3⟩
      go_upto_region 13 with fail
      go_quiet ((go_at_call 19; exact Calls.quiet_of_same (C4'.out _)))
      have B7' := Lib.hid (below_dN B7.out nq)
      have T7' := Lib.hid (below_dN T7.out nq)
      have R27 := Lib.hid (R17.out.drewN nq)
      have R37' := Lib.hid (R37.out.drewN nq)
      clear e0 e1 e2 e3
      generalize w8.drewN nq = w8' at B7' T7' R27 R37' ⊢
      go_upto_region 20 with (go_at_call 15; refine (F2.out _ T7'.out).mono ?_; rintro e w9 ⟨rfl, hB⟩; (have E9 := Lib.hid hB); clear hB)
      have D9 := Lib.hid ((Below.refl _ w9).alloc (Nat.le_refl _) (Obj.cells #[Value.int IntKind.u32 (cutI d b), Value.int IntKind.i64 b, Value.int IntKind.u32 0, Value.int IntKind.i64 2] 33))
      have R28 := Lib.hid ((R27.out.below E9.out).below D9.out)
      have R38 := Lib.hid ((R37'.out.below E9.out).below D9.out)
      have R48 := Lib.hid (RtAt.of_heap (r := rfY d b) (heap_alloc_new w9 (Obj.cells #[Value.int IntKind.u32 (cutI d b), Value.int IntKind.i64 b, Value.int IntKind.u32 0, Value.int IntKind.i64 2] 33)))
      have B8 := Lib.hid (below_to B7'.out (below_to E9.out D9.out E9.out.size) B7'.out.size)
      generalize w9.alloc (Obj.cells #[Value.int IntKind.u32 (cutI d b), Value.int IntKind.i64 b, Value.int IntKind.u32 0, Value.int IntKind.i64 2] 33) = w10 at R28 R38 R48 B8 ⊢
      generalize w9.heap.size = g4 at R48 ⊢
      obtain ⟨c0, c1, c2, c3⟩ : w10.cell? ⟨g1 + 1, 0, none⟩ = some (.int .u32 (cutI d b)) ∧ w10.cell? ⟨g1 + 1, 1, none⟩ = some (.int .i64 b) ∧ w10.cell? ⟨g1 + 1, 2, none⟩ = some (.int .u32 0) ∧ w10.cell? ⟨g1 + 1, 3, none⟩ = some (.int .i64 2) := ⟨R28.out.c0, R28.out.c1, R28.out.c2, R28.out.c3⟩
      obtain ⟨e0, e1, e2, e3⟩ : w10.cell? ⟨g3, 0, none⟩ = some (.int .u32 r.d) ∧ w10.cell? ⟨g3, 1, none⟩ = some (.int .i64 r.b) ∧ w10.cell? ⟨g3, 2, none⟩ = some (.int .u32 r.v) ∧ w10.cell? ⟨g3, 3, none⟩ = some (.int .i64 r.o) := ⟨R38.out.c0, R38.out.c1, R38.out.c2, R38.out.c3⟩
      obtain ⟨k0, k1, k2, k3⟩ : w10.cell? ⟨g4, 0, none⟩ = some (.int .u32 (cutI d b)) ∧ w10.cell? ⟨g4, 1, none⟩ = some (.int .i64 b) ∧ w10.cell? ⟨g4, 2, none⟩ = some (.int .u32 0) ∧ w10.cell? ⟨g4, 3, none⟩ = some (.int .i64 2) := ⟨R48.out.c0, R48.out.c1, R48.out.c2, R48.out.c3⟩
      go_wp2_with fail
      go_ret
      exact ⟨rfl, B8.out⟩
end Go.Proofs.Ytimpellpfnmicaa
