/-
  What is proved: the law OctetsApart answers true for any puts and turns, and leaves all older memory as it was.
  Conditions: errors.errorType holds the handle of the type error; the slices are of fewer than 2^63 elements.
-/
import Derived.Test.YtgbopegjieonhaaDoorShown
import Derived.Test.YtgbopegjieonhaaDoorPutsArg
import Derived.Deep.DeepCutAuto
import Derived.Deep.CutBlock
import Derived.Deep.RegionHeld
namespace Go.Proofs.YtgbopegjieonhaaDoor
open Go.RowKit

/-- Two writers, and what each is to have. -/
structure Two (w : World) (gW gT : Nat) (xs ys us vs : List UInt8) (r0 r1 : Option Nat) (wr : World) : Prop where
  a : Wtr wr ⟨gW, 0, none⟩ r0 xs
  b : Wtr wr ⟨gW, 1, none⟩ r1 ys
  s : wr.cell? ⟨gT, 0, none⟩ = some (.string (txt us))
  t : wr.cell? ⟨gT, 1, none⟩ = some (.string (txt vs))
  fs : wr.frozen? ⟨gT, 0, none⟩ = false
  ft : wr.frozen? ⟨gT, 1, none⟩ = false
  ne : ∀ k, r0 = some k → r1 = some k → False
  lo0 : ∀ k, r0 = some k → w.heap.size ≤ k ∧ k ≠ gT
  lo1 : ∀ k, r1 = some k → w.heap.size ≤ k ∧ k ≠ gT
  old : Below w.heap.size w wr
  gw : w.heap.size ≤ gW
  gt : w.heap.size ≤ gT
  wt : gW ≠ gT

theorem Two.below {w : World} {gW gT : Nat} {xs ys us vs : List UInt8} {r0 r1 : Option Nat} {a b : World} (h : Two w gW gT xs ys us vs r0 r1 a) (hb : Below a.heap.size a b) : Two w gW gT xs ys us vs r0 r1 b :=
  ⟨h.a.below hb, h.b.below hb, (hb.cell (World.block_lt_of_cell? a _ h.s)).trans h.s, (hb.cell (World.block_lt_of_cell? a _ h.t)).trans h.t, (hb.frozen (World.block_lt_of_cell? a _ h.s)).trans h.fs, (hb.frozen (World.block_lt_of_cell? a _ h.t)).trans h.ft, h.ne, h.lo0, h.lo1, below_to h.old hb h.old.size, h.gw, h.gt, h.wt⟩

theorem Two.put0 {w : World} {gW gT : Nat} {xs ys us vs zs : List UInt8} {r0 r1 : Option Nat} {a b : World} (h : Two w gW gT xs ys us vs r0 r1 a) (hw : Wrote ⟨gW, 0, none⟩ r0 zs a b) : ∃ r0', Two w gW gT zs ys us vs r0' r1 b := by
  obtain ⟨r0', k1, k2, k3⟩ := hw
  have hsl := World.block_lt_of_cell? a _ h.s
  have hn : ∀ j, ¬ WtrAt ⟨gW, 0, none⟩ r0 ⟨gT, j, none⟩ := by
    intro j e
    rcases e with e | e
    · injection e with e1; exact h.wt e1.symm
    · exact (h.lo0 gT e.symm).2 rfl
  refine ⟨r0', k1, h.b.fr k3 ?_ ?_, (k3.cell _ hsl (hn 0)).trans h.s, (k3.cell ⟨gT, 1, none⟩ hsl (hn 1)).trans h.t, (k3.frozen _ hsl (hn 0)).trans h.fs, (k3.frozen ⟨gT, 1, none⟩ hsl (hn 1)).trans h.ft, ?_, ?_, h.lo1, ?_, h.gw, h.gt, h.wt⟩
  · intro e
    rcases e with e | e
    · injection e with _ e2; cases e2
    · obtain ⟨v, _, _, _, _, hne⟩ := h.a; exact hne e.symm
  · intro x k hk e he
    rcases e with e | e
    · subst e; obtain ⟨v, _, _, _, _, hne⟩ := h.b; exact hne (by rw [hk]; exact congrArg some he.symm)
    · exact h.ne x.block e.symm (by rw [hk, he])
  · intro k e0 e1
    rcases k2 with e | ⟨j, e, hj⟩
    · exact h.ne k (by rw [← e]; exact e0) e1
    · rw [e] at e0; injection e0 with e0; have := h.b.row_lt k e1; omega
  · intro k e0
    rcases k2 with e | ⟨j, e, hj⟩
    · exact h.lo0 k (by rw [← e]; exact e0)
    · rw [e] at e0; injection e0 with e0; have h1 := h.old.size; have h2 : gT < a.heap.size := hsl; exact ⟨by omega, by omega⟩
  · exact below_to h.old (k3.below (B := w.heap.size) h.old.size (fun x hx => by
      rcases hx with hx | hx
      · subst hx; exact h.gw
      · exact (h.lo0 x.block hx.symm).1)) (Nat.le_refl _)

theorem Two.put1 {w : World} {gW gT : Nat} {xs ys us vs zs : List UInt8} {r0 r1 : Option Nat} {a b : World} (h : Two w gW gT xs ys us vs r0 r1 a) (hw : Wrote ⟨gW, 1, none⟩ r1 zs a b) : ∃ r1', Two w gW gT xs zs us vs r0 r1' b := by
  obtain ⟨r1', k1, k2, k3⟩ := hw
  have hsl := World.block_lt_of_cell? a _ h.s
  have hn : ∀ j, ¬ WtrAt ⟨gW, 1, none⟩ r1 ⟨gT, j, none⟩ := by
    intro j e
    rcases e with e | e
    · injection e with e1; exact h.wt e1.symm
    · exact (h.lo1 gT e.symm).2 rfl
  refine ⟨r1', h.a.fr k3 ?_ ?_, k1, (k3.cell _ hsl (hn 0)).trans h.s, (k3.cell ⟨gT, 1, none⟩ hsl (hn 1)).trans h.t, (k3.frozen _ hsl (hn 0)).trans h.fs, (k3.frozen ⟨gT, 1, none⟩ hsl (hn 1)).trans h.ft, ?_, h.lo0, ?_, ?_, h.gw, h.gt, h.wt⟩
  · intro e
    rcases e with e | e
    · injection e with _ e2; cases e2
    · obtain ⟨v, _, _, _, _, hne⟩ := h.b; exact hne e.symm
  · intro x k hk e he
    rcases e with e | e
    · subst e; obtain ⟨v, _, _, _, _, hne⟩ := h.a; exact hne (by rw [hk]; exact congrArg some he.symm)
    · exact h.ne x.block (by rw [hk, he]) e.symm
  · intro k e0 e1
    rcases k2 with e | ⟨j, e, hj⟩
    · exact h.ne k e0 (by rw [← e]; exact e1)
    · rw [e] at e1; injection e1 with e1; have := h.a.row_lt k e0; omega
  · intro k e1
    rcases k2 with e | ⟨j, e, hj⟩
    · exact h.lo1 k (by rw [← e]; exact e1)
    · rw [e] at e1; injection e1 with e1; have h1 := h.old.size; have h2 : gT < a.heap.size := hsl; exact ⟨by omega, by omega⟩
  · exact below_to h.old (k3.below (B := w.heap.size) h.old.size (fun x hx => by
      rcases hx with hx | hx
      · subst hx; exact h.gw
      · exact (h.lo1 x.block hx.symm).1)) (Nat.le_refl _)
/-- A text is stored. -/
theorem Two.set {w : World} {gW gT : Nat} {xs ys us vs : List UInt8} {r0 r1 : Option Nat} {a : World} (h : Two w gW gT xs ys us vs r0 r1 a) (zs : List UInt8) :
    Two w gW gT xs ys zs vs r0 r1 (a.setCell ⟨gT, 0, none⟩ (.string (txt zs))) ∧ Two w gW gT xs ys us zs r0 r1 (a.setCell ⟨gT, 1, none⟩ (.string (txt zs))) := by
  have hA : ∀ j, Fr (fun x => x = (⟨gT, j, none⟩ : Addr)) a (a.setCell ⟨gT, j, none⟩ (.string (txt zs))) := fun j => Fr.of_set (p := fun x => x = (⟨gT, j, none⟩ : Addr)) a _ _ rfl
  have h1 : ∀ j i, ¬ ((⟨gW, i, none⟩ : Addr) = ⟨gT, j, none⟩) := fun j i e => by injection e with e1; exact h.wt e1
  refine ⟨⟨h.a.fr (hA 0) (h1 0 0) (fun x k hk e he => ?_), h.b.fr (hA 0) (h1 0 1) (fun x k hk e he => ?_), World.cell?_setCell_same _ _ _ h.s, ?_, by rw [frozen_setCell]; exact h.fs, by rw [frozen_setCell]; exact h.ft, h.ne, h.lo0, h.lo1, h.old.setCell h.gt _, h.gw, h.gt, h.wt⟩,
    ⟨h.a.fr (hA 1) (h1 1 0) (fun x k hk e he => ?_), h.b.fr (hA 1) (h1 1 1) (fun x k hk e he => ?_), ?_, World.cell?_setCell_same _ _ _ h.t, by rw [frozen_setCell]; exact h.fs, by rw [frozen_setCell]; exact h.ft, h.ne, h.lo0, h.lo1, h.old.setCell h.gt _, h.gw, h.gt, h.wt⟩⟩
  · subst e; exact (h.lo0 k hk).2 he.symm
  · subst e; exact (h.lo1 k hk).2 he.symm
  · rw [World.cell?_setCell_other _ _ _ _ (by simp)]; exact h.t
  · subst e; exact (h.lo0 k hk).2 he.symm
  · subst e; exact (h.lo1 k hk).2 he.symm
  · rw [World.cell?_setCell_other _ _ _ _ (by simp)]; exact h.s
theorem bdrew (w : World) (m : Nat) : Below w.heap.size w (w.drewN m) := ⟨rfl, rfl, rfl, Nat.le_refl _, fun _ _ => rfl⟩
/-- The turns that a slice value holds. -/
def BoolsAt (w : World) (A : Option Addr) (M : Nat) : Prop := ∀ k, k < M → ∃ g o b, A = some ⟨g, o, none⟩ ∧ w.cell? ⟨g, o + k, none⟩ = some (.bool b)
/-- At the head of each round. -/
def ApartRel (w : World) (gW gT : Nat) (i : Value) (wr : World) : Prop :=
  ∃ (k : Nat) (xs ys : List UInt8) (r0 r1 : Option Nat), k ≤ 30 ∧ xs.length ≤ 50 * k ∧ ys.length ≤ 50 * k ∧ i = .int .i64 k ∧ Two w gW gT xs ys xs ys r0 r1 wr

set_option maxRecDepth 100000 in
set_option maxHeartbeats 8000000 in
theorem apart_any (A : Option Addr) (M c : Nat) (A2 : Option Addr) (M2 c2 : Nat) (w : World) (hg : Hdl w) (hp : PutsAt w A M) (hs : BoolsAt w A2 M2) (_hM : M ≤ c) (_hc : c ≤ 9223372036854775807) (_hM2 : M2 ≤ c2) (_hc2 : c2 ≤ 9223372036854775807) :
    Calls Tryd.prog 8 #[.slice A M c, .slice A2 M2 c2] w fun e w' => e = .returned (.bool true) ∧ Below w.heap.size w w' := by
  have HP := Lib.hid hp
  have HS := Lib.hid hs
  have HG := Lib.hid hg
  clear hp hs hg
  go_enter Tryd.func8, Tryd.ntmps8
  go_wp2_with fail
  refine (shown_any w HG.out).mono ?_
  rintro e w0 ⟨rfl, hb0⟩
  have B0 := Lib.hid hb0
  clear hb0
  go_wp2_with fail
  generalize hgW : w0.heap.size = gW at *
  have h2 : Two w gW (gW + 1) [] [] [] [] none none ((w0.alloc (.cells #[.slice none 0 0, .slice none 0 0] 70)).alloc (.cells #[.string ⟨#[]⟩, .string ⟨#[]⟩] 71)) := by
    subst hgW
    have hb := B0.out
    have hb2 : Below w.heap.size w ((w0.alloc (.cells #[.slice none 0 0, .slice none 0 0] 70)).alloc (.cells #[.string ⟨#[]⟩, .string ⟨#[]⟩] 71)) := (hb.alloc hb.size _).alloc (by rw [World.size_alloc]; have := hb.size; omega) _
    have hs := hb.size
    refine ⟨Wtr.zero (by simp) (by simp), Wtr.zero (by simp) (by simp), ?_, ?_, ?_, ?_, (fun k h => by cases h), (fun k h => by cases h), (fun k h => by cases h), hb2, hs, by omega, by omega⟩
    · rw [World.cell?_alloc_at _ _ _ _ (by simp)]; rfl
    · rw [World.cell?_alloc_at _ _ _ _ (by simp)]; rfl
    · simp
    · simp
  have T0 := Lib.hid h2
  clear h2 B0 hgW
  go_loopw [8] (fun i wr => ApartRel w gW (gW + 1) i wr) (fun i _ => 30 - (intOf i).toNat)
  case atStart => exact ⟨0, [], [], none, none, by omega, by simp, by simp, rfl, T0.out⟩
  case round =>
    obtain ⟨k, xs, ys, r0, r1, hk, hx, hy, rfl, htw⟩ := hrel
    have TW := Lib.hid htw
    clear htw T0
    by_cases hlt : k < M ∧ k < 30
    · obtain ⟨hlt1, hlt2⟩ := hlt
      obtain ⟨gP, oP, kd, n, B, bs, cb, hA, _, _, hcb, _, _, hcbl, hrd⟩ := HP.out k hlt1
      subst hA
      have hlc : bs.length ≤ cb := by obtain ⟨A', c', e, h, _⟩ := hrd; cases e; exact h
      have hcw : wr.cell? ⟨gP, oP + k * 3 + 2, none⟩ = some (.slice B bs.length cb) := (TW.out.old.cell (World.block_lt_of_cell? w _ hcb)).trans hcb
      obtain ⟨K, hK⟩ : ∃ K, K = min bs.length 50 := ⟨_, rfl⟩
      have hk1 : K ≤ bs.length := by omega
      have hk2 : K ≤ 50 := by omega
      have hmin := fun W => min_run (P := Tryd.prog) #[3, 3] 3 (bs.length : Int) 50 (K : Int) (by omega) W
      obtain ⟨ps, hps⟩ : ∃ ps, ps = bs.take K := ⟨_, rfl⟩
      have hpl : ps.length = K := by rw [hps, List.length_take]; omega
      have hrp : Rd w (.slice B K cb) ps := by
        obtain ⟨A', c', e, h, hcell⟩ := hrd
        cases e
        refine ⟨B, cb, by rw [hpl], by omega, fun h0 => ?_⟩
        obtain ⟨g, o, e, hi⟩ := hcell (by omega)
        refine ⟨g, o, e, fun i u hu => hi i u ?_⟩
        rw [hps, List.getElem?_take] at hu
        split at hu
        · exact hu
        · cases hu
      have RP := Lib.hid hrp
      have PL := Lib.hid hpl
      clear hcb hrd hrp hK hps hpl
      generalize bs.length = L at *
      by_cases hb2 : k < M2
      · obtain ⟨gB, oB, bb, hA2, hbc⟩ := HS.out k hb2
        subst hA2
        have hbw : wr.cell? ⟨gB, oB + k, none⟩ = some (.bool bb) := (TW.out.old.cell (World.block_lt_of_cell? w _ hbc)).trans hbc
        clear hbc
        cases bb
        · as_aux_lemma =>
            skip
            go_wp2_with fail
            go_quiet (fail)
            go_wp2_with fail
            have TW2 := Lib.hid (TW.out.below (bdrew wr nq))
            clear TW hcw hmin
            generalize wr.drewN nq = W2 at *
            refine (WBytes_any _ r0 xs ps _ _ TW2.out.a (RP.out.below TW2.out.old) (by rw [PL.out]; omega)).mono ?_
            rintro e w3 ⟨rfl, hw3⟩
            obtain ⟨rn, ht3⟩ := TW2.out.put0 hw3
            have hs3 := ht3.s
            have hf3 := ht3.fs
            have hcv := convert_rd ((RP.out.below ht3.old).below (Below.refl _ _).drew)
            have hss : (txt xs).size + (txt ps).size ≤ 1600 := by rw [txt_size, txt_size, PL.out]; omega
            have TE : Hid (Two w gW (gW + 1) (xs ++ ps) ys (xs ++ ps) ys rn r1 (w3.setCell ⟨gW + 1, 0, none⟩ (.string (txt xs ++ txt ps))).drew) := by
              have h := (ht3.set (xs ++ ps)).1
              rw [← txt_append] at h
              exact h.below ⟨rfl, rfl, rfl, Nat.le_refl _, fun _ _ => rfl⟩
            clear hw3 ht3 TW2
            go_wp2_with fail
            go_region
            go_wp2_with fail
            exact ⟨⟨k + 1, xs ++ ps, ys, rn, r1, by omega, by rw [List.length_append, PL.out]; omega, by omega, by go_num, TE.out⟩, by simp [intOf]; omega⟩
        · as_aux_lemma =>
            skip
            go_wp2_with fail
            go_quiet (fail)
            go_wp2_with fail
            have TW2 := Lib.hid (TW.out.below (bdrew wr nq))
            clear TW hcw hmin
            generalize wr.drewN nq = W2 at *
            refine (WBytes_any _ r1 ys ps _ _ TW2.out.b (RP.out.below TW2.out.old) (by rw [PL.out]; omega)).mono ?_
            rintro e w3 ⟨rfl, hw3⟩
            obtain ⟨rn, ht3⟩ := TW2.out.put1 hw3
            have hs3 := ht3.t
            have hf3 := ht3.ft
            have hcv := convert_rd ((RP.out.below ht3.old).below (Below.refl _ _).drew)
            have hss : (txt ys).size + (txt ps).size ≤ 1600 := by rw [txt_size, txt_size, PL.out]; omega
            have TE : Hid (Two w gW (gW + 1) xs (ys ++ ps) xs (ys ++ ps) r0 rn (w3.setCell ⟨gW + 1, 1, none⟩ (.string (txt ys ++ txt ps))).drew) := by
              have h := (ht3.set (ys ++ ps)).2
              rw [← txt_append] at h
              exact h.below ⟨rfl, rfl, rfl, Nat.le_refl _, fun _ _ => rfl⟩
            clear hw3 ht3 TW2
            go_wp2_with fail
            go_region
            go_wp2_with fail
            exact ⟨⟨k + 1, xs, ys ++ ps, r0, rn, by omega, by omega, by rw [List.length_append, PL.out]; omega, by go_num, TE.out⟩, by simp [intOf]; omega⟩
      · as_aux_lemma =>
          have hnb : decide ((k : Int) < (M2 : Int)) = false := by simp; omega
          go_wp2_with fail
          go_quiet (fail)
          go_wp2_with fail
          have TW2 := Lib.hid (TW.out.below (bdrew wr nq))
          clear TW hcw hmin
          generalize wr.drewN nq = W2 at *
          refine (WBytes_any _ r0 xs ps _ _ TW2.out.a (RP.out.below TW2.out.old) (by rw [PL.out]; omega)).mono ?_
          rintro e w3 ⟨rfl, hw3⟩
          obtain ⟨rn, ht3⟩ := TW2.out.put0 hw3
          have hs3 := ht3.s
          have hf3 := ht3.fs
          have hcv := convert_rd ((RP.out.below ht3.old).below (Below.refl _ _).drew)
          have hss : (txt xs).size + (txt ps).size ≤ 1600 := by rw [txt_size, txt_size, PL.out]; omega
          have TE : Hid (Two w gW (gW + 1) (xs ++ ps) ys (xs ++ ps) ys rn r1 (w3.setCell ⟨gW + 1, 0, none⟩ (.string (txt xs ++ txt ps))).drew) := by
            have h := (ht3.set (xs ++ ps)).1
            rw [← txt_append] at h
            exact h.below ⟨rfl, rfl, rfl, Nat.le_refl _, fun _ _ => rfl⟩
          clear hw3 ht3 TW2
          go_wp2_with fail
          go_region
          go_wp2_with fail
          exact ⟨⟨k + 1, xs ++ ps, ys, rn, r1, by omega, by rw [List.length_append, PL.out]; omega, by omega, by go_num, TE.out⟩, by simp [intOf]; omega⟩
    · by_cases hkM : k < M
      · as_aux_lemma =>
          have hk30 : ¬ k < 30 := fun h => hlt ⟨hkM, h⟩
          clear hlt
          have hend : ∀ W, Below wr.heap.size wr W → Two w gW (gW + 1) xs ys xs ys r0 r1 W := fun W hW => TW.out.below hW
          have HE := Lib.hid hend
          have hxl : xs.length ≤ 1500 := by omega
          have hyl : ys.length ≤ 1500 := by omega
          clear hend
          go_wp2_with fail
          refine (WDone_any _ r0 xs _ TW.out.a (by omega)).mono ?_
          rintro e w3 ⟨rfl, hw3⟩
          obtain ⟨hrd3, hb3⟩ := done_facts hw3
          have B3 := Lib.hid hb3
          have RD3 := Lib.hid hrd3
          clear hb3 hrd3 hw3
          go_wp2_with fail
          refine (Read_facts _ xs _ RD3.out (by omega)).mono ?_
          rintro e w4 ⟨ra, rfl, hra, rra, b4⟩
          have B4 := Lib.hid (below_to B3.out b4 B3.out.size)
          have RA4 := Lib.hid rra
          have hra2 : ra < w4.heap.size := rra.at_
          have hra1 : w3.heap.size ≤ ra := hra
          clear b4 rra hra RD3
          go_wp2_with fail
          refine (WDone_any _ r0 xs _ (HE.out _ B4.out).a (by omega)).mono ?_
          rintro e w5 ⟨rfl, hw5⟩
          obtain ⟨hrd5, hb5⟩ := done_facts hw5
          have B5 := Lib.hid (below_to B4.out hb5 B4.out.size)
          have RA5 := Lib.hid (RA4.out.below hb5)
          have RD5 := Lib.hid hrd5
          have h45 : w4.heap.size ≤ w5.heap.size := hb5.size
          clear hb5 hrd5 hw5 RA4
          go_wp2_with fail
          refine (Read_facts _ xs _ RD5.out (by omega)).mono ?_
          rintro e w6 ⟨rb, rfl, hrb, rrb, b6⟩
          have B6 := Lib.hid (below_to B5.out b6 B5.out.size)
          have RA6 := Lib.hid (RA5.out.below b6)
          have RB6 := Lib.hid rrb
          have hrb1 : w5.heap.size ≤ rb := hrb
          clear b6 rrb hrb RD5 RA5
          go_wp2_with fail
          refine (Rest_any _ xs _ RA6.out (by omega)).mono ?_
          rintro e w7 ⟨rfl, htk⟩
          have hp7 := htk.part
          rw [List.take_length] at hp7
          have RX7 := Lib.hid (Rd.of_obj (c := xs.length) hp7 (Nat.le_refl _))
          have hz3 : wr.heap.size ≤ w3.heap.size := B3.out.size
          have B7 := Lib.hid (below_to B6.out (htk.fr.below (B := wr.heap.size) B6.out.size (fun x hx => by have e : x = ⟨ra, 0, none⟩ := hx; subst e; show _ ≤ ra; omega)) (Nat.le_refl _))
          have RB7 := Lib.hid (RB6.out.other RA6.out htk.fr (by intro e; injection e; omega))
          clear htk hp7 RA6 RB6
          go_wp2_with fail
          refine (Rest_any _ xs _ RB7.out (by omega)).mono ?_
          rintro e w8 ⟨rfl, htk⟩
          have hp8 := htk.part
          rw [List.take_length] at hp8
          have RY8 := Lib.hid (Rd.of_obj (c := xs.length) hp8 (Nat.le_refl _))
          have RX8 := Lib.hid (RX7.out.fr htk.fr (fun x u hu e => RB7.out.not_byte u (by have e' : x = ⟨rb, 0, none⟩ := e; rw [← e']; exact hu)))
          have hz5 : wr.heap.size ≤ w5.heap.size := B5.out.size
          have B8 := Lib.hid (below_to B7.out (htk.fr.below (B := wr.heap.size) B7.out.size (fun x hx => by have e : x = ⟨rb, 0, none⟩ := hx; subst e; show _ ≤ rb; omega)) (Nat.le_refl _))
          clear htk hp8 RB7 RX7
          have T8 := Lib.hid (HE.out _ B8.out)
          generalize w6.heap.size = hx6 at *
          generalize w7.heap.size = hx7 at *
          have hSF : ∀ W, Below w8.heap.size w8 W → W.cell? ⟨gW + 1, 0, none⟩ = some (.string (txt xs)) ∧ W.cell? ⟨gW + 1, 1, none⟩ = some (.string (txt ys)) ∧ (convert 22 9 (.slice (some ⟨hx6, 0, none⟩) xs.length xs.length)).run Tryd.prog W = .ok (.string (txt xs)) W ∧ (convert 22 9 (.slice (some ⟨hx7, 0, none⟩) xs.length xs.length)).run Tryd.prog W = .ok (.string (txt xs)) W := fun W hW =>
            ⟨(T8.out.below hW).s, (T8.out.below hW).t, convert_rd (RX8.out.below hW), convert_rd (RY8.out.below hW)⟩
          have SF := Lib.hid hSF
          have hD0 : ∀ W, Below w8.heap.size w8 W → Calls Tryd.prog 25 #[.pointer (some ⟨gW, 0, none⟩)] W fun e w' => e = .returned (.slice (some ⟨W.heap.size, 0, none⟩) xs.length xs.length) ∧ (convert 22 9 (.slice (some ⟨W.heap.size, 0, none⟩) xs.length xs.length)).run Tryd.prog w' = .ok (.string (txt xs)) w' ∧ Below w8.heap.size w8 w' := fun W hW =>
            (WDone_any _ r0 xs W (T8.out.below hW).a (by omega)).mono fun e w' ⟨x, y⟩ => ⟨x, convert_rd (done_facts y).1, below_to hW (done_facts y).2 hW.size⟩
          have hD1 : ∀ W, Below w8.heap.size w8 W → Calls Tryd.prog 25 #[.pointer (some ⟨gW, 1, none⟩)] W fun e w' => e = .returned (.slice (some ⟨W.heap.size, 0, none⟩) ys.length ys.length) ∧ (convert 22 9 (.slice (some ⟨W.heap.size, 0, none⟩) ys.length ys.length)).run Tryd.prog w' = .ok (.string (txt ys)) w' ∧ Below w8.heap.size w8 w' := fun W hW =>
            (WDone_any _ r1 ys W (T8.out.below hW).b (by omega)).mono fun e w' ⟨x, y⟩ => ⟨x, convert_rd (done_facts y).1, below_to hW (done_facts y).2 hW.size⟩
          have D0 := Lib.hid hD0
          have D1 := Lib.hid hD1
          have BE := Lib.hid (T8.out.old)
          clear hSF hD0 hD1 T8 RX8 RY8 B3 B4 B5 B6 B7 B8 HE TW HP HS HG hra1 hra2 h45 hrb1 hz3 hz5
          go_wp2_with fail
          go_region_held (fun W => W.cell? ⟨gW + 1, 0, none⟩ = some (.string (txt xs)) ∧ W.cell? ⟨gW + 1, 1, none⟩ = some (.string (txt ys)) ∧ (convert 22 9 (.slice (some ⟨hx6, 0, none⟩) xs.length xs.length)).run Tryd.prog W = .ok (.string (txt xs)) W ∧ (convert 22 9 (.slice (some ⟨hx7, 0, none⟩) xs.length xs.length)).run Tryd.prog W = .ok (.string (txt xs)) W) (first | exact SF.out _ (Below.refl _ _).drew | exact SF.out _ BB.out | exact SF.out _ BA.out) (first | (go_at_call_of 25 (Value.pointer (some ⟨gW, 0, none⟩)); refine (D0.out _ ?_).mono ?_; (exact (Below.refl _ _).drew); rintro e wa ⟨rfl, hcva, hba⟩; (simp only [World.size_drew] at hcva); (have BA := Lib.hid hba); clear hba) | (go_at_call_of 25 (Value.pointer (some ⟨gW, 1, none⟩)); refine (D1.out _ ?_).mono ?_; (exact BA.out); rintro e wb ⟨rfl, hcvb, hbb⟩; (have BB := Lib.hid hbb); clear hbb))
          go_wp2_with fail
          go_ret
          exact ⟨rfl, below_to BE.out BB.out BE.out.size⟩
      · as_aux_lemma =>
          clear hlt
          have hend : ∀ W, Below wr.heap.size wr W → Two w gW (gW + 1) xs ys xs ys r0 r1 W := fun W hW => TW.out.below hW
          have HE := Lib.hid hend
          have hxl : xs.length ≤ 1500 := by omega
          have hyl : ys.length ≤ 1500 := by omega
          clear hend
          go_wp2_with fail
          refine (WDone_any _ r0 xs _ TW.out.a (by omega)).mono ?_
          rintro e w3 ⟨rfl, hw3⟩
          obtain ⟨hrd3, hb3⟩ := done_facts hw3
          have B3 := Lib.hid hb3
          have RD3 := Lib.hid hrd3
          clear hb3 hrd3 hw3
          go_wp2_with fail
          refine (Read_facts _ xs _ RD3.out (by omega)).mono ?_
          rintro e w4 ⟨ra, rfl, hra, rra, b4⟩
          have B4 := Lib.hid (below_to B3.out b4 B3.out.size)
          have RA4 := Lib.hid rra
          have hra2 : ra < w4.heap.size := rra.at_
          have hra1 : w3.heap.size ≤ ra := hra
          clear b4 rra hra RD3
          go_wp2_with fail
          refine (WDone_any _ r0 xs _ (HE.out _ B4.out).a (by omega)).mono ?_
          rintro e w5 ⟨rfl, hw5⟩
          obtain ⟨hrd5, hb5⟩ := done_facts hw5
          have B5 := Lib.hid (below_to B4.out hb5 B4.out.size)
          have RA5 := Lib.hid (RA4.out.below hb5)
          have RD5 := Lib.hid hrd5
          have h45 : w4.heap.size ≤ w5.heap.size := hb5.size
          clear hb5 hrd5 hw5 RA4
          go_wp2_with fail
          refine (Read_facts _ xs _ RD5.out (by omega)).mono ?_
          rintro e w6 ⟨rb, rfl, hrb, rrb, b6⟩
          have B6 := Lib.hid (below_to B5.out b6 B5.out.size)
          have RA6 := Lib.hid (RA5.out.below b6)
          have RB6 := Lib.hid rrb
          have hrb1 : w5.heap.size ≤ rb := hrb
          clear b6 rrb hrb RD5 RA5
          go_wp2_with fail
          refine (Rest_any _ xs _ RA6.out (by omega)).mono ?_
          rintro e w7 ⟨rfl, htk⟩
          have hp7 := htk.part
          rw [List.take_length] at hp7
          have RX7 := Lib.hid (Rd.of_obj (c := xs.length) hp7 (Nat.le_refl _))
          have hz3 : wr.heap.size ≤ w3.heap.size := B3.out.size
          have B7 := Lib.hid (below_to B6.out (htk.fr.below (B := wr.heap.size) B6.out.size (fun x hx => by have e : x = ⟨ra, 0, none⟩ := hx; subst e; show _ ≤ ra; omega)) (Nat.le_refl _))
          have RB7 := Lib.hid (RB6.out.other RA6.out htk.fr (by intro e; injection e; omega))
          clear htk hp7 RA6 RB6
          go_wp2_with fail
          refine (Rest_any _ xs _ RB7.out (by omega)).mono ?_
          rintro e w8 ⟨rfl, htk⟩
          have hp8 := htk.part
          rw [List.take_length] at hp8
          have RY8 := Lib.hid (Rd.of_obj (c := xs.length) hp8 (Nat.le_refl _))
          have RX8 := Lib.hid (RX7.out.fr htk.fr (fun x u hu e => RB7.out.not_byte u (by have e' : x = ⟨rb, 0, none⟩ := e; rw [← e']; exact hu)))
          have hz5 : wr.heap.size ≤ w5.heap.size := B5.out.size
          have B8 := Lib.hid (below_to B7.out (htk.fr.below (B := wr.heap.size) B7.out.size (fun x hx => by have e : x = ⟨rb, 0, none⟩ := hx; subst e; show _ ≤ rb; omega)) (Nat.le_refl _))
          clear htk hp8 RB7 RX7
          have T8 := Lib.hid (HE.out _ B8.out)
          generalize w6.heap.size = hx6 at *
          generalize w7.heap.size = hx7 at *
          have hSF : ∀ W, Below w8.heap.size w8 W → W.cell? ⟨gW + 1, 0, none⟩ = some (.string (txt xs)) ∧ W.cell? ⟨gW + 1, 1, none⟩ = some (.string (txt ys)) ∧ (convert 22 9 (.slice (some ⟨hx6, 0, none⟩) xs.length xs.length)).run Tryd.prog W = .ok (.string (txt xs)) W ∧ (convert 22 9 (.slice (some ⟨hx7, 0, none⟩) xs.length xs.length)).run Tryd.prog W = .ok (.string (txt xs)) W := fun W hW =>
            ⟨(T8.out.below hW).s, (T8.out.below hW).t, convert_rd (RX8.out.below hW), convert_rd (RY8.out.below hW)⟩
          have SF := Lib.hid hSF
          have hD0 : ∀ W, Below w8.heap.size w8 W → Calls Tryd.prog 25 #[.pointer (some ⟨gW, 0, none⟩)] W fun e w' => e = .returned (.slice (some ⟨W.heap.size, 0, none⟩) xs.length xs.length) ∧ (convert 22 9 (.slice (some ⟨W.heap.size, 0, none⟩) xs.length xs.length)).run Tryd.prog w' = .ok (.string (txt xs)) w' ∧ Below w8.heap.size w8 w' := fun W hW =>
            (WDone_any _ r0 xs W (T8.out.below hW).a (by omega)).mono fun e w' ⟨x, y⟩ => ⟨x, convert_rd (done_facts y).1, below_to hW (done_facts y).2 hW.size⟩
          have hD1 : ∀ W, Below w8.heap.size w8 W → Calls Tryd.prog 25 #[.pointer (some ⟨gW, 1, none⟩)] W fun e w' => e = .returned (.slice (some ⟨W.heap.size, 0, none⟩) ys.length ys.length) ∧ (convert 22 9 (.slice (some ⟨W.heap.size, 0, none⟩) ys.length ys.length)).run Tryd.prog w' = .ok (.string (txt ys)) w' ∧ Below w8.heap.size w8 w' := fun W hW =>
            (WDone_any _ r1 ys W (T8.out.below hW).b (by omega)).mono fun e w' ⟨x, y⟩ => ⟨x, convert_rd (done_facts y).1, below_to hW (done_facts y).2 hW.size⟩
          have D0 := Lib.hid hD0
          have D1 := Lib.hid hD1
          have BE := Lib.hid (T8.out.old)
          clear hSF hD0 hD1 T8 RX8 RY8 B3 B4 B5 B6 B7 B8 HE TW HP HS HG hra1 hra2 h45 hrb1 hz3 hz5
          go_wp2_with fail
          go_region_held (fun W => W.cell? ⟨gW + 1, 0, none⟩ = some (.string (txt xs)) ∧ W.cell? ⟨gW + 1, 1, none⟩ = some (.string (txt ys)) ∧ (convert 22 9 (.slice (some ⟨hx6, 0, none⟩) xs.length xs.length)).run Tryd.prog W = .ok (.string (txt xs)) W ∧ (convert 22 9 (.slice (some ⟨hx7, 0, none⟩) xs.length xs.length)).run Tryd.prog W = .ok (.string (txt xs)) W) (first | exact SF.out _ (Below.refl _ _).drew | exact SF.out _ BB.out | exact SF.out _ BA.out) (first | (go_at_call_of 25 (Value.pointer (some ⟨gW, 0, none⟩)); refine (D0.out _ ?_).mono ?_; (exact (Below.refl _ _).drew); rintro e wa ⟨rfl, hcva, hba⟩; (simp only [World.size_drew] at hcva); (have BA := Lib.hid hba); clear hba) | (go_at_call_of 25 (Value.pointer (some ⟨gW, 1, none⟩)); refine (D1.out _ ?_).mono ?_; (exact BA.out); rintro e wb ⟨rfl, hcvb, hbb⟩; (have BB := Lib.hid hbb); clear hbb))
          go_wp2_with fail
          go_ret
          exact ⟨rfl, below_to BE.out BB.out BE.out.size⟩
end Go.Proofs.YtgbopegjieonhaaDoor
