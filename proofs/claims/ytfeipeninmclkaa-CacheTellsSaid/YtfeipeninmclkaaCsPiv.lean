/-
  What is proved: slices.order2Ordered, medianOrdered, choosePivotOrdered at addresses by contract: the pivot lies in the part, and nothing of the row turns.
  Conditions: the part lies in the row and has from eight to forty-nine addresses.
-/
import Derived.Test.YtfeipeninmclkaaCsRev
namespace Go.Proofs.Ytfeipeninmclkaa
open Go.RowKit

theorem set_same {w : World} {b i : Nat} {u : Value} (h : w.cell? ⟨b, i, none⟩ = some u) (v : Value) : (w.setCell ⟨b, i, none⟩ v).cell? ⟨b, i, none⟩ = some v := by
  obtain ⟨c, e, fr, hb, hc⟩ := Sort.cells_of_cell? h
  rw [Sort.setCell_eq, Sort.cell?_mapBlock w b _ _ hb]
  have := (Array.getElem?_eq_some_iff.1 hc).1
  simp [this]
/-- Two places, in one order or the other; the count of swaps has risen a little; nothing else has turned. -/
def O2At (s sb : Nat) (x y : Nat) (w : World) (e : Ending) (w' : World) : Prop :=
  ∃ u v t : Nat, e = .returned (.tuple #[.int .i64 u, .int .i64 v]) ∧ ((u = x ∧ v = y) ∨ (u = y ∧ v = x)) ∧ t ≤ s + 1 ∧ w'.cell? ⟨sb, 0, none⟩ = some (.int .i64 t) ∧ w'.frozen? ⟨sb, 0, none⟩ = false ∧ w.grownBy w' (some sb)
set_option maxRecDepth 100000 in
set_option maxHeartbeats 2000000 in
theorem order2_any (g o cap x y N s sb : Nat) (d : Array Int) (w : World) (hd : Sort.Holds (Value.int .u32) w g o d) (hN : d.size = N) (hx : x < N) (hy : y < N) (_ : N ≤ 49) (hs : s ≤ 1000)
    (hc : w.cell? ⟨sb, 0, none⟩ = some (.int .i64 s)) (hf : w.frozen? ⟨sb, 0, none⟩ = false) :
    Calls Try.prog 62 #[.slice (some ⟨g, o, none⟩) N cap, .int .i64 x, .int .i64 y, .pointer (some ⟨sb, 0, none⟩)] w (O2At s sb x y w) := by
  obtain ⟨c1, f1⟩ := hd x (by omega)
  obtain ⟨c2, f2⟩ := hd y (by omega)
  generalize d[x]! = p at c1
  generalize d[y]! = q at c2
  have Hc := Lib.hid hc
  have Hf := Lib.hid hf
  clear hd hN f1 f2
  go_enter Try.func62, Try.ntmps62
  go_wp2
  go_quiet (first | (go_at_call 51; refine Calls.quiet_of_same (less_any _ _ _)))
  go_wp2
  · go_ret2
    exact ⟨y, x, s + 1, rfl, .inr ⟨rfl, rfl⟩, Nat.le_refl _, set_same (w := w.drewN nq) Hc.out _, by rw [World.frozen?_setCell]; exact Hf.out, gb_set (gb_dN (gb_refl _ _) _) _ _⟩
  · go_ret2
    exact ⟨x, y, s, rfl, .inl ⟨rfl, rfl⟩, Nat.le_succ _, Hc.out, Hf.out, gb_dN (gb_refl _ _) _⟩

theorem holds_gb {w w' : World} {g o sb : Nat} {d : Array Int} (h : Sort.Holds (Value.int .u32) w g o d) (k : w.grownBy w' (some sb)) (hne : g ≠ sb) : Sort.Holds (Value.int .u32) w' g o d := by
  intro j hj
  obtain ⟨h1, h2⟩ := h j hj
  have hlt := World.block_lt_of_cell? w _ h1
  have e := k.block g hlt (fun e => hne (Option.some.inj e))
  refine ⟨?_, ?_⟩
  · rw [← h1]; unfold World.cell?; rw [e]
  · rw [← h2]; unfold World.frozen?; rw [e]
def MedAt (s sb x y z : Nat) (w : World) (e : Ending) (w' : World) : Prop :=
  ∃ m t : Nat, e = .returned (.int .i64 m) ∧ (m = x ∨ m = y ∨ m = z) ∧ t ≤ s + 3 ∧ w'.cell? ⟨sb, 0, none⟩ = some (.int .i64 t) ∧ w'.frozen? ⟨sb, 0, none⟩ = false ∧ w.grownBy w' (some sb)
set_option maxRecDepth 100000 in
set_option maxHeartbeats 2000000 in
theorem median_any (g o cap x y z N s sb : Nat) (d : Array Int) (w : World) (hd : Sort.Holds (Value.int .u32) w g o d) (hN : d.size = N) (hx : x < N) (hy : y < N) (hz : z < N) (hsz : N ≤ 49) (hs : s ≤ 900)
    (hc : w.cell? ⟨sb, 0, none⟩ = some (.int .i64 s)) (hf : w.frozen? ⟨sb, 0, none⟩ = false) (hne : g ≠ sb) :
    Calls Try.prog 60 #[.slice (some ⟨g, o, none⟩) N cap, .int .i64 x, .int .i64 y, .int .i64 z, .pointer (some ⟨sb, 0, none⟩)] w (MedAt s sb x y z w) := by
  have X1 := Lib.hid (order2_any g o cap x y N s sb d w hd hN hx hy hsz (by omega) hc hf)
  have HD := Lib.hid hd
  have HN := Lib.hid hN
  have Hne := Lib.hid hne
  clear hd hN hc hf hne
  go_enter Try.func60, Try.ntmps60
  go_upto_region 2 with (go_at_call 62; (with_reducible refine X1.out.mono ?_); rintro e1 w1 ⟨u, v, t, rfl, h1, h2, h3, h4, h5⟩)
  have huN : u < N := by omega
  have hvN : v < N := by omega
  have M1 : Hid ((u = x ∨ u = y) ∧ (v = x ∨ v = y)) := Lib.hid (by omega)
  have X2 := Lib.hid (order2_any g o cap v z N t sb d w1 (holds_gb HD.out h5 Hne.out) HN.out hvN hz hsz (by omega) h3 h4)
  have G1 := Lib.hid h5
  have T1 := Lib.hid h2
  clear h1 h2 h3 h4 h5
  go_upto_region 3 with (go_at_call 62; (with_reducible refine X2.out.mono ?_); rintro e2 w2 ⟨u2, v2, t2, rfl, h1, h2, h3, h4, h5⟩)
  have hu2N : u2 < N := by omega
  have M2 : Hid (u2 = v ∨ u2 = z) := Lib.hid (by omega)
  have G2 := Lib.hid (gb_trans G1.out h5)
  have X3 := Lib.hid (order2_any g o cap u u2 N t2 sb d w2 (holds_gb HD.out G2.out Hne.out) HN.out huN hu2N hsz (by have := T1.out; omega) h3 h4)
  have T2 := Lib.hid h2
  clear h1 h2 h3 h4 h5
  go_upto_region 4 with (go_at_call 62; (with_reducible refine X3.out.mono ?_); rintro e3 w3 ⟨u3, v3, t3, rfl, h1, h2, h3, h4, h5⟩)
  have M3 : Hid (v3 = u ∨ v3 = u2) := Lib.hid (by omega)
  have G3 := Lib.hid (gb_trans G2.out h5)
  have H3 := Lib.hid (And.intro h3 h4)
  have T3 := Lib.hid h2
  clear h1 h2 h3 h4 h5
  go_wp2
  go_ret
  refine ⟨v3, t3, rfl, ?_, ?_, H3.out.1, H3.out.2, G3.out⟩
  · have := M1.out; have := M2.out; have := M3.out; omega
  · have := T1.out; have := T2.out; have := T3.out; omega

def PivAt (a b : Nat) (w : World) (e : Ending) (w' : World) : Prop :=
  ∃ (m : Nat) (h : Int), e = .returned (.tuple #[.int .i64 m, .int .i64 h]) ∧ a ≤ m ∧ m < b ∧ (h = 0 ∨ h = 1 ∨ h = 2) ∧ Below w.heap.size w w'
set_option maxRecDepth 100000 in
set_option maxHeartbeats 2000000 in
theorem pivot_any (g o cap a b N : Nat) (d : Array Int) (w : World) (hd : Sort.Holds (Value.int .u32) w g o d) (hN : d.size = N) (hab : a + 8 ≤ b) (hb : b ≤ N) (hsz : N ≤ 49) :
    Calls Try.prog 48 #[.slice (some ⟨g, o, none⟩) N cap, .int .i64 a, .int .i64 b] w (PivAt a b w) := by
  have hg : g < w.heap.size := World.block_lt_of_cell? w _ (hd 0 (by omega)).1
  obtain ⟨l, hl⟩ : ∃ l : Nat, b - a = l := ⟨_, rfl⟩
  have hlI : (b : Int) - (a : Int) = (l : Int) := by omega
  obtain ⟨q, hq⟩ : ∃ q : Nat, l / 4 = q := ⟨_, rfl⟩
  have hqI : (l : Int) / 4 = (q : Int) := by omega
  have HQ : Hid (4 * q ≤ l ∧ l < 4 * q + 4) := Lib.hid (by omega)
  have hx : a + q * 1 < b := by omega
  have hy : a + q * 2 < b := by omega
  have hz : a + q * 3 < b := by omega
  have q8 : decide (8 ≤ (l : Int)) = true := decide_eq_true (by omega)
  have q50 : decide (50 ≤ (l : Int)) = false := decide_eq_false (by omega)
  have hl8 : 8 ≤ l := by omega
  have hl50 : l < 50 := by omega
  have hq0 : q ≤ 12 := by omega
  have hal : a + l ≤ 49 := by omega
  have HLI := Lib.hid hlI
  have HQI := Lib.hid hqI
  clear hl hlI hq hqI
  obtain ⟨x, hxe⟩ : ∃ x : Nat, a + q * 1 = x := ⟨_, rfl⟩
  obtain ⟨y, hye⟩ : ∃ y : Nat, a + q * 2 = y := ⟨_, rfl⟩
  obtain ⟨z, hze⟩ : ∃ z : Nat, a + q * 3 = z := ⟨_, rfl⟩
  rw [hxe] at hx
  rw [hye] at hy
  rw [hze] at hz
  have Hx := Lib.hid hxe
  have Hy := Lib.hid hye
  have Hz := Lib.hid hze
  clear hxe hye hze
  have B1 := Lib.hid ((Below.refl _ w).alloc (Nat.le_refl _) (.cells #[.int .i64 0] 3))
  have X := Lib.hid (median_any g o cap x y z N 0 w.heap.size d (w.alloc (.cells #[.int .i64 0] 3)) (fun j hj => ⟨(B1.out.cell (World.block_lt_of_cell? w _ (hd j hj).1)).trans (hd j hj).1, (B1.out.frozen (World.block_lt_of_cell? w _ (hd j hj).1)).trans (hd j hj).2⟩) hN (by omega) (by omega) (by omega) hsz (by omega)
    (by unfold World.cell?; rw [heap_alloc_new w (.cells #[.int .i64 0] 3)]; rfl) (by unfold World.frozen?; rw [heap_alloc_new w (.cells #[.int .i64 0] 3)]; rfl) (by omega))
  have HD := Lib.hid hd
  clear hd hN
  go_enter Try.func48, Try.ntmps48
  go_upto_region 2 with fail
  rw [HLI.out]
  go_upto_region 6 with fail
  rw [show (a : Int) + (l : Int) / 4 * 2 = (y : Int) by have := HQI.out; have := Hy.out; omega, show (a : Int) + (l : Int) / 4 * 3 = (z : Int) by have := HQI.out; have := Hz.out; omega, show (a : Int) + (l : Int) / 4 = (x : Int) by have := HQI.out; have := Hx.out; omega]
  have hN9 : w.heap.size < (w.alloc (.cells #[.int .i64 0] 3)).heap.size := by simp
  go_upto_region 12 with (go_at_call 60; (with_reducible refine X.out.mono ?_); rintro e1 w1 ⟨m, t, rfl, h1, h2, h3, h4, h5⟩)
  have HM : Hid (a ≤ m ∧ m < b) := Lib.hid (by have := Hx.out; have := Hy.out; have := Hz.out; omega)
  have B2 := Lib.hid (B1.out.grown h5 B1.out.size (fun k e => by cases e; exact Nat.le_refl _))
  clear h1 h2 h4 h5 X
  by_cases t0 : t = 0
  · subst t0
    go_wp2
    go_ret2
    exact ⟨m, 1, rfl, HM.out.1, HM.out.2, .inr (.inl rfl), B2.out⟩
  · by_cases t12 : t = 12
    · subst t12
      clear t0
      go_wp2
      go_ret2
      exact ⟨m, 2, rfl, HM.out.1, HM.out.2, .inr (.inr rfl), B2.out⟩
    · have q1 : ((t : Int) == 0) = false := by simp; omega
      have q2 : ((t : Int) == 12) = false := by simp; omega
      clear t0 t12
      go_wp2
      go_ret2
      exact ⟨m, 0, rfl, HM.out.1, HM.out.2, .inl rfl, B2.out⟩
end Go.Proofs.Ytfeipeninmclkaa
