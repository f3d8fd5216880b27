/-
  What is proved: (*slices.xorshift).Next, nextPowerOfTwo, breakPatternsOrdered at addresses by contract: the row's part is permuted.
  Conditions: the part lies in the row and has from eight to forty-nine addresses.
-/
import Derived.Test.YtfeipeninmclkaaCsPiv
import Derived.Test.YtfeipeninmclkaaCsBits
namespace Go.Proofs.Ytfeipeninmclkaa
open Go.RowKit

theorem len_few : ∀ L : Fin 50, 8 ≤ L.val → (Lib.bitLen L.val = 4 ∧ L.val < 16) ∨ (Lib.bitLen L.val = 5 ∧ 16 ≤ L.val ∧ L.val < 32) ∨ (Lib.bitLen L.val = 6 ∧ 32 ≤ L.val) := by decide
def PowAt (L : Nat) (w : World) (e : Ending) (w' : World) : Prop := ∃ M : Nat, e = .returned (.int .u64 M) ∧ L < M ∧ M ≤ 2 * L ∧ w = w'
set_option maxHeartbeats 1000000 in
theorem pow_any (L : Nat) (w : World) (h8 : 8 ≤ L) (h50 : L < 50) : Calls Try.prog 57 #[.int .i64 L] w (PowAt L w) := by
  have X := Lib.hid (len_any L w (by omega) (by omega))
  have hb := len_few ⟨L, h50⟩ h8
  simp only at hb
  rw [Int.toNat_natCast] at X
  rcases hb with ⟨hb, hr⟩ | ⟨hb, hr⟩ | ⟨hb, hr⟩
  all_goals
    rw [hb] at X
    clear hb
    go_enter Try.func57, Try.ntmps57
    go_wp2_with (go_at_call 44; (with_reducible refine X.out.mono ?_); rintro e1 w1 ⟨rfl, rfl⟩)
    go_ret
  · exact ⟨16, rfl, by omega, by omega, rfl⟩
  · exact ⟨32, rfl, by omega, by omega, rfl⟩
  · exact ⟨64, rfl, by omega, by omega, rfl⟩

theorem xor_u64 (x y : Int) : 0 ≤ bits .xor .u64 x y ∧ bits .xor .u64 x y < 18446744073709551616 := by
  show 0 ≤ IntKind.u64.wrap ((BitVec.ofInt 64 x ^^^ BitVec.ofInt 64 y).toNat : Int) ∧ IntKind.u64.wrap ((BitVec.ofInt 64 x ^^^ BitVec.ofInt 64 y).toNat : Int) < 18446744073709551616
  rw [IntKind.wrap_u64]
  omega
theorem and_u64 (x : Int) (m : Nat) (hx : 0 ≤ x) (hx1 : x < 18446744073709551616) (hm : m < 18446744073709551616) : ∃ r : Nat, bits .and .u64 x (m : Int) = (r : Int) ∧ r ≤ m := by
  obtain ⟨n, rfl⟩ : ∃ n : Nat, x = (n : Int) := ⟨x.toNat, by omega⟩
  exact ⟨n &&& m, bits_and_u64_nat n m (by omega) hm, Nat.and_le_right⟩
def NextAt (r : Nat) (w : World) (e : Ending) (w' : World) : Prop :=
  ∃ y : Int, e = .returned (.int .u64 y) ∧ 0 ≤ y ∧ y < 18446744073709551616 ∧ w'.cell? ⟨r, 0, none⟩ = some (.int .u64 y) ∧ w'.frozen? ⟨r, 0, none⟩ = false ∧ w.grownBy w' (some r)
set_option maxHeartbeats 2000000 in
theorem next_any (r : Nat) (x : Int) (w : World) (hx : 0 ≤ x) (hx1 : x < 18446744073709551616) (hc : w.cell? ⟨r, 0, none⟩ = some (.int .u64 x)) (hf : w.frozen? ⟨r, 0, none⟩ = false) :
    Calls Try.prog 58 #[.pointer (some ⟨r, 0, none⟩)] w (NextAt r w) := by
  have HC := Lib.hid hc
  have HF := Lib.hid hf
  go_enter Try.func58, Try.ntmps58
  go_upto_region 1 with fail
  go_region
  generalize hz : bits .xor .u64 x (IntKind.u64.wrap (x * 8192)) = z
  have hz0 := xor_u64 x (IntKind.u64.wrap (x * 8192))
  rw [hz] at hz0
  obtain ⟨hz1, hz2⟩ := hz0
  have HC1 : Hid ((World.drew (w.setCell ⟨r, 0, none⟩ (.int .u64 z))).cell? ⟨r, 0, none⟩ = some (.int .u64 z)) := Lib.hid (set_same HC.out _)
  have HF1 : Hid ((World.drew (w.setCell ⟨r, 0, none⟩ (.int .u64 z))).frozen? ⟨r, 0, none⟩ = false) := Lib.hid (by show (w.setCell _ _).frozen? _ = false; rw [World.frozen?_setCell]; exact HF.out)
  have HG1 : Hid (w.grownBy (World.drew (w.setCell ⟨r, 0, none⟩ (.int .u64 z))) (some r)) := Lib.hid (gb_dN (gb_set (gb_refl _ _) _ _) 1)
  generalize World.drew (w.setCell ⟨r, 0, none⟩ (.int .u64 z)) = w1 at HC1 HF1 HG1 ⊢
  clear hz hc hf HC HF hx hx1
  have hc := HC1.out
  have hf := HF1.out
  go_upto_region 2 with fail
  go_region
  generalize hy : bits .xor .u64 z (z / 128) = y
  have hy0 := xor_u64 z (z / 128)
  rw [hy] at hy0
  obtain ⟨hy1, hy2⟩ := hy0
  have HC2 : Hid ((World.drew (w1.setCell ⟨r, 0, none⟩ (.int .u64 y))).cell? ⟨r, 0, none⟩ = some (.int .u64 y)) := Lib.hid (set_same HC1.out _)
  have HF2 : Hid ((World.drew (w1.setCell ⟨r, 0, none⟩ (.int .u64 y))).frozen? ⟨r, 0, none⟩ = false) := Lib.hid (by show (w1.setCell _ _).frozen? _ = false; rw [World.frozen?_setCell]; exact HF1.out)
  have HG2 : Hid (w.grownBy (World.drew (w1.setCell ⟨r, 0, none⟩ (.int .u64 y))) (some r)) := Lib.hid (gb_dN (gb_set HG1.out _ _) 1)
  generalize World.drew (w1.setCell ⟨r, 0, none⟩ (.int .u64 y)) = w2 at HC2 HF2 HG2 ⊢
  clear hy hc hf HC1 HF1 HG1 hz1 hz2
  have hc := HC2.out
  have hf := HF2.out
  go_upto_region 3 with fail
  go_region
  generalize hv : bits .xor .u64 y (IntKind.u64.wrap (y * 131072)) = v
  have hv0 := xor_u64 y (IntKind.u64.wrap (y * 131072))
  rw [hv] at hv0
  obtain ⟨hv1, hv2⟩ := hv0
  have HC3 : Hid ((World.drew (w2.setCell ⟨r, 0, none⟩ (.int .u64 v))).cell? ⟨r, 0, none⟩ = some (.int .u64 v)) := Lib.hid (set_same HC2.out _)
  have HF3 : Hid ((World.drew (w2.setCell ⟨r, 0, none⟩ (.int .u64 v))).frozen? ⟨r, 0, none⟩ = false) := Lib.hid (by show (w2.setCell _ _).frozen? _ = false; rw [World.frozen?_setCell]; exact HF2.out)
  have HG3 : Hid (w.grownBy (World.drew (w2.setCell ⟨r, 0, none⟩ (.int .u64 v))) (some r)) := Lib.hid (gb_dN (gb_set HG2.out _ _) 1)
  generalize World.drew (w2.setCell ⟨r, 0, none⟩ (.int .u64 v)) = w3 at HC3 HF3 HG3 ⊢
  clear hv hc hf HC2 HF2 HG2 hy1 hy2
  have hc := HC3.out
  go_wp2
  go_ret
  exact ⟨v, rfl, hv1, hv2, HC3.out, HF3.out, HG3.out⟩

def BreakAt (g o a b : Nat) (d : Array Int) (w : World) (e : Ending) (w' : World) : Prop := ∃ d', e = .returned (.tuple #[]) ∧ Sort.PermIn a b d d' ∧ Sr w g o d' w'
/-- The row and the number beside it. -/
structure BrSt (w0 : World) (g o r : Nat) (d : Array Int) (w : World) : Prop where
  row : Sort.Holds (Value.int .u32) w g o d
  num : ∃ y : Int, 0 ≤ y ∧ y < 18446744073709551616 ∧ w.cell? ⟨r, 0, none⟩ = some (.int .u64 y)
  free : w.frozen? ⟨r, 0, none⟩ = false
  go : w0.grownBy w (some g)
theorem BrSt.step {w0 w w' : World} {g o r : Nat} {d d' : Array Int} (h : BrSt w0 g o r d w) (k : Sr w g o d' w') (hne : g ≠ r) : BrSt w0 g o r d' w' := by
  obtain ⟨y, h1, h2, h3⟩ := h.num
  have hlt := World.block_lt_of_cell? w _ h3
  have e := k.go.block r hlt (fun e => hne (Option.some.inj e).symm)
  refine ⟨k.row, ⟨y, h1, h2, ?_⟩, ?_, gb_trans h.go k.go⟩
  · rw [← h3]; unfold World.cell?; rw [e]
  · rw [← h.free]; unfold World.frozen?; rw [e]
set_option maxRecDepth 100000 in
set_option maxHeartbeats 4000000 in
theorem break_any (g o cap a b N : Nat) (d : Array Int) (w : World) (hd : Sort.Holds (Value.int .u32) w g o d) (hN : d.size = N) (hab : a + 8 ≤ b) (hb : b ≤ N) (hsz : N ≤ 49) :
    Calls Try.prog 47 #[.slice (some ⟨g, o, none⟩) N cap, .int .i64 a, .int .i64 b] w (BreakAt g o a b d w) := by
  have hg : g < w.heap.size := World.block_lt_of_cell? w _ (hd 0 (by omega)).1
  obtain ⟨l, hl⟩ : ∃ l : Nat, b - a = l := ⟨_, rfl⟩
  have hlI : (b : Int) - (a : Int) = (l : Int) := by omega
  obtain ⟨q, hq⟩ : ∃ q : Nat, l / 4 = q := ⟨_, rfl⟩
  have hqI : (l : Int) / 4 = (q : Int) := by omega
  have hal : a + l = b := by omega
  have hl8 : 8 ≤ l := by omega
  have hl50 : l < 50 := by omega
  have hq1 : 4 * q ≤ l := by omega
  have hq2 : 2 ≤ q := by omega
  have q8 : decide (8 ≤ (l : Int)) = true := decide_eq_true (by omega)
  have HLI := Lib.hid hlI
  have HQI := Lib.hid hqI
  have HD := Lib.hid hd
  have HN := Lib.hid hN
  have XP := Lib.hid (fun W => pow_any l W hl8 hl50)
  clear hl hlI hq hqI hd hN
  go_enter Try.func47, Try.ntmps47
  go_upto_region 1 with fail
  rw [HLI.out]
  go_upto_region 3 with fail
  have B1 := Lib.hid ((Below.refl _ w).alloc (Nat.le_refl _) (.cells #[.int .u64 l] 105))
  have S1 : Hid (BrSt w g o w.heap.size d (w.alloc (.cells #[.int .u64 l] 105))) := Lib.hid
    ⟨fun j hj => ⟨(B1.out.cell (World.block_lt_of_cell? w _ (HD.out j hj).1)).trans (HD.out j hj).1, (B1.out.frozen (World.block_lt_of_cell? w _ (HD.out j hj).1)).trans (HD.out j hj).2⟩,
     ⟨l, by omega, by omega, by unfold World.cell?; rw [heap_alloc_new w (.cells #[.int .u64 l] 105)]; rfl⟩,
     by unfold World.frozen?; rw [heap_alloc_new w (.cells #[.int .u64 l] 105)]; rfl,
     ⟨B1.out.os, B1.out.tape, B1.out.output, B1.out.size, fun i hi _ => B1.out.block i hi⟩⟩
  generalize w.alloc (.cells #[.int .u64 l] 105) = w1 at S1 ⊢
  obtain ⟨r, hr⟩ : ∃ r, w.heap.size = r := ⟨_, rfl⟩
  have HR := Lib.hid hr
  rw [hr] at S1 ⊢
  clear B1 HD hr
  go_upto_region 4 with (go_at_call 57; (with_reducible refine (XP.out _).mono ?_); rintro e2 w2 ⟨M, rfl, hM1, hM2, rfl⟩)
  have hM3 : M ≤ 98 := by omega
  go_wp2
  go_loopw [9] (fun s wr => ∃ (i : Nat) (e : Array Int), s = .int .i64 i ∧ a ≤ i ∧ i ≤ a + q * 2 + 2 ∧ e.size = N ∧ Sort.PermIn a b d e ∧ BrSt w g o r e wr) (fun s _ => 1000 - (numOf s).toNat)
  case atStart => exact ⟨a + q * 2 - 1, d, by congr 1; have := HQI.out; omega, by omega, by omega, HN.out, Sort.permIn_refl _ _ _, S1.out⟩
  case round =>
    obtain ⟨i, e, rfl, hi1, hi2, he, hP, hS⟩ := hrel
    have HS := Lib.hid hS
    have HP := Lib.hid hP
    have He := Lib.hid he
    clear hS hP he S1
    by_cases hle : i ≤ a + q * 2 + 1
    · have q5 : decide ((i : Int) ≤ (a : Int) + (l : Int) / 4 * 2 + 1) = true := decide_eq_true (by have := HQI.out; omega)
      have Hgr : Hid (g ≠ r) := Lib.hid (by have := HR.out; omega)
      obtain ⟨v, hv1, hv2, hv3⟩ := HS.out.num
      have XN := Lib.hid (next_any r v wr hv1 hv2 hv3 HS.out.free)
      clear hv1 hv2 hv3
      go_upto_region 8 with (go_at_call 58; (with_reducible refine XN.out.mono ?_); rintro e3 w3 ⟨y, rfl, hy1, hy2, hy3, hy4, hy5⟩; obtain ⟨O, hO, hOle⟩ := and_u64 y (M - 1) hy1 hy2 (by omega); rw [show ((M - 1 : Nat) : Int) = (M : Int) - 1 by omega] at hO)
      have HS4 : Hid (BrSt w g o r e w3) := Lib.hid ⟨holds_gb HS.out.row hy5 Hgr.out, ⟨y, hy1, hy2, hy3⟩, hy4, HS.out.go.andThen hy5 (fun j e => by cases e; exact .inl (by have := HR.out; omega))⟩
      clear hy1 hy2 hy3 hy4 hy5 XN hO
      have hO97 : O ≤ 97 := by omega
      by_cases hol : l ≤ O
      · have q6 : decide ((l : Int) ≤ (O : Int)) = true := decide_eq_true (by omega)
        obtain ⟨P, hPe⟩ : ∃ P : Nat, O - l = P := ⟨_, rfl⟩
        have hPI : (O : Int) - (l : Int) = (P : Int) := by omega
        have hPl : P < l := by omega
        have HPI := Lib.hid hPI
        clear hPe hPI
        go_upto_region 10 with fail
        rw [HPI.out]
        obtain ⟨t, ht⟩ : ∃ t : Nat, a + P = t := ⟨_, rfl⟩
        have w1 : IntKind.i64.wrap ((a : Int) + (P : Int)) = (t : Int) := by rw [IntKind.wrap_i64]; omega
        have htN : t < N := by omega
        have hiN : i < N := by omega
        obtain ⟨x, hx⟩ : ∃ x, e[t]! = x := ⟨_, rfl⟩
        obtain ⟨y2, hy⟩ : ∃ y, e[i]! = y := ⟨_, rfl⟩
        have HQ := Lib.hid (Sr.start HS4.out.row)
        have c1 := HQ.out.cell (i := t) (by have := He.out; omega)
        have c2 := HQ.out.cell (i := i) (by have := He.out; omega)
        have f1 := HQ.out.free (i := t) (by have := He.out; omega)
        have f2 := HQ.out.free (i := i) (by have := He.out; omega)
        have HW := Lib.hid (fun q => HQ.out.swp (i := i) (j := t) (by have := He.out; omega) (by have := He.out; omega) q)
        rw [hx] at c1 HW
        rw [hy] at c2 HW
        obtain ⟨z, c3⟩ := HQ.out.again (i := i) (j := t) (by have := He.out; omega) (by have := He.out; omega) (.int .u32 x)
        have HP2 : Hid (Sort.PermIn a b d (Sort.swp e i t)) := Lib.hid (Sort.permIn_trans _ _ _ _ _ HP.out (Sort.swp_permIn _ _ _ _ _ hi1 (by omega) (by omega) (by omega) (by have := He.out; omega)))
        clear hx hy ht
        go_region
        all_goals
          have HT : Hid (Sr w3 g o (Sort.swp e i t) (World.drew ((w3.setCell ⟨g, o + i, none⟩ (.int .u32 x)).setCell ⟨g, o + t, none⟩ (.int .u32 y2)))) := Lib.hid (HW.out 1)
          go_wp2
          go_roundw
          case rel => exact ⟨i + 1, _, by go_num, by omega, by omega, by rw [swp_size]; exact He.out, HP2.out, HS4.out.step HT.out Hgr.out⟩
          case measure => simp [numOf]; omega
      · have q6 : decide ((l : Int) ≤ (O : Int)) = false := decide_eq_false (by omega)
        obtain ⟨P, hPe⟩ : ∃ P : Nat, O = P := ⟨_, rfl⟩
        have hPl : P < l := by omega
        subst hPe
        go_upto_region 10 with fail
        obtain ⟨t, ht⟩ : ∃ t : Nat, a + O = t := ⟨_, rfl⟩
        have w1 : IntKind.i64.wrap ((a : Int) + (O : Int)) = (t : Int) := by rw [IntKind.wrap_i64]; omega
        have htN : t < N := by omega
        have hiN : i < N := by omega
        obtain ⟨x, hx⟩ : ∃ x, e[t]! = x := ⟨_, rfl⟩
        obtain ⟨y2, hy⟩ : ∃ y, e[i]! = y := ⟨_, rfl⟩
        have HQ := Lib.hid (Sr.start HS4.out.row)
        have c1 := HQ.out.cell (i := t) (by have := He.out; omega)
        have c2 := HQ.out.cell (i := i) (by have := He.out; omega)
        have f1 := HQ.out.free (i := t) (by have := He.out; omega)
        have f2 := HQ.out.free (i := i) (by have := He.out; omega)
        have HW := Lib.hid (fun q => HQ.out.swp (i := i) (j := t) (by have := He.out; omega) (by have := He.out; omega) q)
        rw [hx] at c1 HW
        rw [hy] at c2 HW
        obtain ⟨z, c3⟩ := HQ.out.again (i := i) (j := t) (by have := He.out; omega) (by have := He.out; omega) (.int .u32 x)
        have HP2 : Hid (Sort.PermIn a b d (Sort.swp e i t)) := Lib.hid (Sort.permIn_trans _ _ _ _ _ HP.out (Sort.swp_permIn _ _ _ _ _ hi1 (by omega) (by omega) (by omega) (by have := He.out; omega)))
        clear hx hy ht
        go_region
        all_goals
          have HT : Hid (Sr w3 g o (Sort.swp e i t) (World.drew ((w3.setCell ⟨g, o + i, none⟩ (.int .u32 x)).setCell ⟨g, o + t, none⟩ (.int .u32 y2)))) := Lib.hid (HW.out 1)
          go_wp2
          go_roundw
          case rel => exact ⟨i + 1, _, by go_num, by omega, by omega, by rw [swp_size]; exact He.out, HP2.out, HS4.out.step HT.out Hgr.out⟩
          case measure => simp [numOf]; omega
    · have q5 : decide ((i : Int) ≤ (a : Int) + (l : Int) / 4 * 2 + 1) = false := decide_eq_false (by have := HQI.out; omega)
      go_wp2
      go_end0
      exact ⟨e, rfl, HP.out, HS.out.row, HS.out.go⟩
end Go.Proofs.Ytfeipeninmclkaa
