/-
  What is proved: the law OctetsReads answers true for any bytes and steps, and leaves all older memory as it was.
  Conditions: errors.errorType holds the handle of the type error; the slices are of fewer than 2^63 elements.
-/
import Derived.Test.YtgbopegjieonhaaDoorShown
import Derived.Test.YtgbopegjieonhaaDoorRef
import Derived.Test.YtgbopegjieonhaaDoorOwn
import Derived.Test.YtgbopegjieonhaaDoorIn
import Derived.Deep.CutBlock
import Derived.Deep.DeepCutAuto
namespace Go.Proofs.YtgbopegjieonhaaDoor
open Go.RowKit

/-- At the head of the loop that writes over the row 'g'. -/
def OverRel (w1 : World) (g n : Nat) (i : Value) (wr : World) : Prop := ∃ k : Nat, k ≤ n ∧ i = .int .i64 k ∧ Any wr g n ∧ Fr (fun a => a.block = g) w1 wr
/-- At the head of each step. -/
def ReadsRel (w : World) (p q : Addr) (i : Value) (wr : World) : Prop :=
  ∃ (k : Nat) (bs : List UInt8), k ≤ 50 ∧ bs.length ≤ 200 ∧ i = .int .i64 k ∧ Rdr wr p bs ∧ wr.cell? q = some (.string (txt bs)) ∧ wr.frozen? q = false ∧ Below w.heap.size w wr

theorem ofNat_of (a : UInt8) (k : Nat) (h : k % 256 = a.toNat) : UInt8.ofNat k = a := by
  apply UInt8.toNat_inj.1
  rw [ofNat_lt, h]
theorem one_of (a : UInt8) : [UInt8.ofNat a.toNat] = [a] := by
  have ha := a.toNat_lt
  rw [ofNat_of a a.toNat (by omega)]
theorem be2_of (a b : UInt8) : be2 (a.toNat * 256 + b.toNat) = [a, b] := by
  have ha := a.toNat_lt
  have hb := b.toNat_lt
  simp only [be2, List.cons.injEq, and_true]
  exact ⟨ofNat_of _ _ (by omega), ofNat_of _ _ (by omega)⟩
theorem be4_of (a b c d : UInt8) : be4 (((a.toNat * 256 + b.toNat) * 256 + c.toNat) * 256 + d.toNat) = [a, b, c, d] := by
  have ha := a.toNat_lt
  have hb := b.toNat_lt
  have hc := c.toNat_lt
  have hd := d.toNat_lt
  simp only [be4, List.cons.injEq, and_true]
  exact ⟨ofNat_of _ _ (by omega), ofNat_of _ _ (by omega), ofNat_of _ _ (by omega), ofNat_of _ _ (by omega)⟩

/-- Both readers have the same bytes left. -/
structure St (w : World) (p q : Addr) (bs : List UInt8) (wx : World) : Prop where
  rdr : Rdr wx p bs
  cell : wx.cell? q = some (.string (txt bs))
  free : wx.frozen? q = false
  old : Below w.heap.size w wx
theorem St.below {w : World} {p q : Addr} {bs : List UInt8} {a b : World} (h : St w p q bs a) (hb : Below a.heap.size a b) : St w p q bs b :=
  ⟨h.rdr.below hb, (hb.cell (World.block_lt_of_cell? a q h.cell)).trans h.cell, (hb.frozen (World.block_lt_of_cell? a q h.cell)).trans h.free, below_to h.old hb h.old.size⟩
/-- The program's reader has gone on, the document's follows. -/
theorem St.both {w : World} {p q : Addr} {bs cs : List UInt8} {a b : World} (h : St w p q bs a) (hf : Fr (· = p) a b) (hr : Rdr b p cs) (hpq : p ≠ q) (hp : w.heap.size ≤ p.block) (hq : w.heap.size ≤ q.block) :
    b.cell? q = some (.string (txt bs)) ∧ b.frozen? q = false ∧ St w p q cs (b.setCell q (.string (txt cs))) := by
  have hql := World.block_lt_of_cell? a q h.cell
  have hc : b.cell? q = some (.string (txt bs)) := (hf.cell q hql (fun e => hpq e.symm)).trans h.cell
  have hz : b.frozen? q = false := (hf.frozen q hql (fun e => hpq e.symm)).trans h.free
  have hb : Below w.heap.size w b := below_to h.old (hf.below (B := w.heap.size) h.old.size (fun x hx => by have : x = p := hx; subst this; exact hp)) (Nat.le_refl _)
  refine ⟨hc, hz, ⟨hr.fr (Fr.of_set (p := (· = q)) b q _ rfl) hpq (fun x u hu e => ?_), World.cell?_setCell_same _ _ _ hc, by rw [frozen_setCell]; exact hz, hb.setCell hq _⟩⟩
  have e' : x = q := e
  subst e'
  rw [hc] at hu
  cases hu
theorem below_drewN (w : World) (m : Nat) : Below w.heap.size w (w.drewN m) := ⟨rfl, rfl, rfl, Nat.le_refl _, fun _ _ => rfl⟩
/-- The document's reader is written: the program's stays where it lies. -/
theorem rdrIn_set {P : Nat → Prop} {b : World} {p q : Addr} {bs : List UInt8} {t : ByteArray} (h : RdrIn P b p bs) (hc : b.cell? q = some (.string t)) (hpq : p ≠ q) (v : Value) : RdrIn P (b.setCell q v) p bs := by
  obtain ⟨A, h1, h2, h3⟩ := h
  refine ⟨A, ?_, by rw [frozen_setCell]; exact h2, fun h0 => ?_⟩
  · rw [World.cell?_setCell_other _ _ _ _ (fun e => hpq e.symm)]; exact h1
  · obtain ⟨g, o, hP, e, hi⟩ := h3 h0
    refine ⟨g, o, hP, e, fun i u hu => ?_⟩
    rw [World.cell?_setCell_other _ _ _ _ (fun e => by subst e; rw [hi i u hu] at hc; cases hc)]
    exact hi i u hu
/-- The part is written over: both readers stay as they are. -/
theorem part_over {w : World} {r sq g : Nat} {bs : List UInt8} {a b : World} (h : St w ⟨r, 0, none⟩ ⟨sq, 0, none⟩ bs a) (hp : RdrIn (fun k => k < g) a ⟨r, 0, none⟩ bs ∧ sq < g ∧ r < g ∧ w.heap.size ≤ g) (hf : Fr (fun x => x.block = g) a b) : St w ⟨r, 0, none⟩ ⟨sq, 0, none⟩ bs b := by
  obtain ⟨h1, h2, h3, h4⟩ := hp
  have hql := World.block_lt_of_cell? a _ h.cell
  refine ⟨(h1.fr hf (fun e => by have e' : r = g := e; omega) (fun x hx e => by have e1 : x.block < g := hx; have e2 : x.block = g := e; omega)).rdr, (hf.cell _ hql (fun e => by have e' : sq = g := e; omega)).trans h.cell, (hf.frozen _ hql (fun e => by have e' : sq = g := e; omega)).trans h.free, ?_⟩
  exact below_to h.old (hf.below (B := w.heap.size) h.old.size (fun x hx => by have e : x.block = g := hx; omega)) (Nat.le_refl _)
/-- What the step has told, and where both readers stand. -/
def ReadsCut (w : World) (p q : Addr) (got err want wrong : Value) (wx : World) : Prop :=
  ∃ (T : ByteArray) (bs : List UInt8), got = .string T ∧ want = .string T ∧ bs.length ≤ 200 ∧ ((err = .nilIface ∧ wrong = .string ⟨#[]⟩) ∨ (∃ m : Nat, m < 14 ∧ Chain wx m [octetsWord] err ∧ wrong = .string (text m [octetsWord]))) ∧ St w p q bs wx

set_option maxRecDepth 100000 in
set_option maxHeartbeats 8000000 in
theorem reads_any (A : Option Addr) (c : Nat) (bs0 : List UInt8) (A2 : Option Addr) (M c2 : Nat) (w : World) (hg : Hdl w) (hb : Rd w (.slice A bs0.length c) bs0)
    (hs : ∀ k, k < M → ∃ g o kd n, A2 = some ⟨g, o, none⟩ ∧ w.cell? ⟨g, o + k * 2, none⟩ = some (.int .i64 kd) ∧ w.cell? ⟨g, o + k * 2 + 1, none⟩ = some (.int .i64 n) ∧ -9223372036854775808 ≤ n ∧ n ≤ 9223372036854775807) (_hc : c ≤ 9223372036854775807) (_hM : M ≤ c2) (_hc2 : c2 ≤ 9223372036854775807) :
    Calls Tryd.prog 3 #[.slice A bs0.length c, .slice A2 M c2] w fun e w' => e = .returned (.bool true) ∧ Below w.heap.size w w' := by
  obtain ⟨K, hk⟩ : ∃ k, k = min bs0.length 200 := ⟨_, rfl⟩
  have hlc : bs0.length ≤ c := by obtain ⟨A', c', e, h, _⟩ := hb; cases e; exact h
  have hk1 : K ≤ bs0.length := by omega
  have hk2 : K ≤ 200 := by omega
  have hmin := fun W => min_run (P := Tryd.prog) #[3, 3] 3 (bs0.length : Int) 200 (K : Int) (by omega) W
  obtain ⟨bs, hbs⟩ : ∃ bs, bs = bs0.take K := ⟨_, rfl⟩
  have hlen : bs.length = K := by rw [hbs, List.length_take]; omega
  have hrb : Rd w (.slice A K c) bs := by
    obtain ⟨A', c', e, h, hcell⟩ := hb
    cases e
    refine ⟨A, c, by rw [hlen], by omega, fun h0 => ?_⟩
    obtain ⟨g, o, e, hi⟩ := hcell (by omega)
    refine ⟨g, o, e, fun i u hu => hi i u ?_⟩
    rw [hbs, List.getElem?_take] at hu
    split at hu
    · exact hu
    · cases hu
  have HB := Lib.hid hrb
  have HS := Lib.hid hs
  have HG := Lib.hid hg
  clear hb hs hg hk hrb
  generalize hL : bs0.length = L at *
  have HL := Lib.hid hlen
  clear hL hbs hlen
  go_enter Tryd.func3, Tryd.ntmps3
  go_wp2_with fail
  refine (shown_any w HG.out).mono ?_
  rintro e w0 ⟨rfl, hb0⟩
  have hbA : Below w.heap.size w (w0.alloc (.cells #[] 5)) := hb0.alloc hb0.size _
  have hrow : Row (w0.alloc (.cells #[] 5)) w0.heap.size 0 [] := ⟨⟨#[], heap_alloc_new w0 _, rfl, rfl⟩, Nat.le_refl _⟩
  obtain ⟨g, gc, w1, hrun, hrow1, hgr, hgat⟩ := append_row hrow (by simp [maxLen]) bs (.slice A K c) (HB.out.below hbA) (by rw [HL.out]; simp; omega)
  rw [List.nil_append, HL.out] at hrun
  rw [List.nil_append] at hrow1
  have hg0 : w.heap.size ≤ g := by
    have h1 := hb0.size
    rcases hgat with e | e
    · omega
    · rw [World.size_alloc] at e; omega
  have hb1 : Below w.heap.size w w1 := hbA.grown hgr hbA.size (fun k hk => by cases hk; exact hb0.size)
  have ER := Lib.hid hrun
  have RW := Lib.hid hrow1
  have B1 := Lib.hid hb1
  clear hb0 hbA hrow hrun hrow1 hgr hgat hb1
  go_wp2_with (at_builtin; refine wpList_append_eq rfl (.tmp 27) (.tmp 32) 22 rfl _ _ rfl rfl _ _ ER.out ?_)
  have hrd1 : Rd w1 (.slice (some ⟨g, 0, none⟩) K gc) bs := by have := RW.out.rd; rwa [HL.out] at this
  have hgl : g < w1.heap.size := by obtain ⟨cur, h1, _⟩ := RW.out.ex; exact (Array.getElem?_eq_some_iff.1 h1).1
  refine (Read_in _ bs _ hrd1 (by rw [HL.out]; omega)).mono ?_
  rintro e w2 ⟨r, rfl, hr, rr2, b2⟩
  have hcv := convert_rd (hrd1.below b2)
  have hAny : Any (w2.alloc (.cells #[.string (txt bs)] 29)) g K := by
    obtain ⟨cur, h1, h2, _⟩ := RW.out.ex
    refine ⟨cur, ?_, by have := RW.out.fits; rw [HL.out] at this; omega⟩
    rw [Below.heap_alloc _ _ _ (by have := b2.size; omega), b2.block g hgl]
    exact h1
  have hr1 : w.heap.size ≤ r := by have := B1.out.size; omega
  have hrg : r ≠ g := by omega
  have hr2 : r < w2.heap.size := rr2.rdr.at_
  have hgl2 : g < w2.heap.size := by have := b2.size; omega
  have R2 := Lib.hid (rr2.below ((Below.refl _ _).alloc (Nat.le_refl _) (.cells #[.string (txt bs)] 29)))
  have B2 := Lib.hid ((below_to B1.out b2 B1.out.size).alloc (below_to B1.out b2 B1.out.size).size (.cells #[.string (txt bs)] 29))
  have AN := Lib.hid hAny
  have hs2 : w.heap.size ≤ w2.heap.size := (below_to B1.out b2 B1.out.size).size
  clear hrd1 rr2 b2 hAny B1 RW ER hmin hr
  go_wp2_with fail
  clear hcv
  go_loopw [9] (fun i wr => OverRel (w2.alloc (.cells #[.string (txt bs)] 29)) g K i wr) (fun i _ => K - (intOf i).toNat)
  case atStart => exact ⟨0, by omega, rfl, AN.out, Fr.refl _ _⟩
  case round =>
    obtain ⟨k, hk, rfl, han, hfr⟩ := hrel
    have AN2 := Lib.hid han
    have FR := Lib.hid hfr
    clear han hfr
    by_cases hlt : k < K
    · obtain ⟨⟨v, hv⟩, hfz⟩ := AN2.out.cell hlt
      go_wp2_with fail
      go_roundw
      case rel => exact ⟨k + 1, by omega, by go_num, AN2.out.set _ _, FR.out.set _ _ rfl⟩
      case measure => simp [intOf]; omega
    · have hfr := FR.out
      have hqc : wr.cell? ⟨w2.heap.size, 0, none⟩ = some (.string (txt bs)) := (hfr.cell ⟨w2.heap.size, 0, none⟩ (by simp) (fun e => by have : w2.heap.size = g := e; omega)).trans (by simp)
      have hqf : wr.frozen? ⟨w2.heap.size, 0, none⟩ = false := (hfr.frozen ⟨w2.heap.size, 0, none⟩ (by simp) (fun e => by have : w2.heap.size = g := e; omega)).trans (by simp)
      have hrr := R2.out.fr hfr (fun e => hrg e) (fun a ha e => by have h1 : w1.heap.size ≤ a.block := ha; have h2 : a.block = g := e; omega)
      have hbw := below_to B2.out (hfr.below (B := w.heap.size) B2.out.size (fun x hx => by have : x.block = g := hx; omega)) (Nat.le_refl _)
      have R3 := Lib.hid hrr.rdr
      have Q3 := Lib.hid (And.intro hqc hqf)
      have B3 := Lib.hid hbw
      have hrs : r ≠ w2.heap.size := by omega
      generalize hsq : w2.heap.size = sq at *
      clear hsq hfr hqc hqf hrr hbw AN AN2 FR R2 B2 hgl
      obtain ⟨wo, hwo⟩ : ∃ wo : World, wo = wr := ⟨_, rfl⟩
      go_wp2_with fail
      clear hlt hk
      go_loopw [10] (fun i wr => ReadsRel w ⟨r, 0, none⟩ ⟨sq, 0, none⟩ i wr) (fun i _ => 50 - (intOf i).toNat)
      case atStart => exact ⟨0, bs, by omega, by rw [HL.out]; exact hk2, rfl, R3.out, Q3.out.1, Q3.out.2, B3.out⟩
      case round =>
        obtain ⟨k2, cs, hk2', hcs, rfl, hrd, hqc, hqf, hbw⟩ := hrel
        have ST : Hid (St w ⟨r, 0, none⟩ ⟨sq, 0, none⟩ cs wr) := ⟨hrd, hqc, hqf, hbw⟩
        clear hrd hqc hqf hbw R3 Q3 B3
        have hpq : Hid ((⟨r, 0, none⟩ : Addr) ≠ ⟨sq, 0, none⟩) := by intro e; injection e; omega
        by_cases hlt : k2 < M ∧ k2 < 50
        · obtain ⟨hlt1, hlt2⟩ := hlt
          obtain ⟨gS, oS, kd, n, hA2, hkd, hn, hn1, hn2⟩ := HS.out k2 hlt1
          subst hA2
          have hk0 : wr.cell? ⟨gS, oS + k2 * 2, none⟩ = some (.int .i64 kd) := (ST.out.old.cell (World.block_lt_of_cell? w _ hkd)).trans hkd
          have hk1' : wr.cell? ⟨gS, oS + k2 * 2 + 1, none⟩ = some (.int .i64 n) := (ST.out.old.cell (World.block_lt_of_cell? w _ hn)).trans hn
          clear hkd hn
          go_upto_block 4 with (fail)
          go_cut [11, 12, 13, 14] (fun got err want wrong wx => ReadsCut w ⟨r, 0, none⟩ ⟨sq, 0, none⟩ got err want wrong wx)
          case first =>
            by_cases hd1 : kd = 1
            · subst hd1
              by_cases hl : 1 ≤ cs.length
              · as_aux_lemma =>
                  obtain ⟨b0, rs, rfl⟩ : ∃ b0 rs, cs = b0 :: rs := by
                    match cs, hl with
                    | b0 :: rs, _ => exact ⟨b0, rs, rfl⟩
                  have hrl : rs.length ≤ 200 := by simp at hcs; omega
                  go_wp2_with fail
                  refine (U8_ok _ b0 rs _ ST.out.rdr (by simp at hcs ⊢; omega)).mono ?_
                  rintro e w3 ⟨he, hr3, hf3, hz3⟩
                  obtain ⟨hq1, hq2, hst⟩ := ST.out.both hf3 hr3 hpq.out hr1 hs2
                  have ST3 := Lib.hid hst
                  clear hr3 hf3 hz3 hst
                  obtain ⟨N, hN⟩ : ∃ N : Nat, N = b0.toNat := ⟨_, rfl⟩
                  have he' : e = .returned (.tuple #[.int .u8 (N : Int), .nilIface]) := by rw [he, hN]
                  subst he'
                  have hb0 := b0.toNat_lt
                  have hNl : N < 256 := by omega
                  have HX : Hid ([UInt8.ofNat N] = [b0]) := by show _ = _; rw [hN]; exact one_of b0
                  clear hN he hb0
                  go_wp2_with fail
                  refine (refTake_ok _ _ 1 _ hq1 hq2 (by simp) (by simp at hcs ⊢; omega)).mono ?_
                  rintro e w4 ⟨he, hw4⟩
                  have he' : e = .returned (.tuple #[.string (txt [b0]), .string ⟨#[]⟩]) := he
                  subst he'
                  have ST4 : Hid (St w ⟨r, 0, none⟩ ⟨sq, 0, none⟩ rs w4) := by have := ST3.out; rw [← hw4]; exact this
                  have hsz : (txt [b0]).size = 1 := rfl
                  clear he hw4 hq1 hq2 ST3
                  go_wp2_with fail
                  refine (refText1 N _ (by omega)).mono ?_
                  rintro e w5 ⟨rfl, hb5⟩
                  have ST5 := Lib.hid (ST4.out.below hb5)
                  clear hb5 ST4 hsz
                  go_wp2_with fail
                  go_meet
                  case rel => exact ⟨txt [b0], rs, by rw [HX.out], rfl, hrl, .inl ⟨rfl, rfl⟩, ST5.out⟩
              · as_aux_lemma =>
                  go_wp2_with fail
                  refine (U8_short _ cs _ ST.out.rdr (by omega)).mono ?_
                  rintro e w3 ⟨rfl, hw3⟩
                  obtain ⟨hch, hb3⟩ := wrong_facts 2 octetsWord hw3
                  have C3 := Lib.hid hch
                  have ST3 := Lib.hid (ST.out.below hb3)
                  clear hch hb3 hw3
                  go_wp2_with fail
                  refine (refTake_short _ cs 1 _ ST3.out.cell (by omega)).mono ?_
                  rintro e w' ⟨rfl, rfl⟩
                  go_wp2_with fail
                  refine (refText0 0 _ (by omega)).mono ?_
                  rintro e w4 ⟨he, hb4⟩
                  have he' : e = .returned (.string ⟨#[]⟩) := he
                  subst he'
                  have ST4 := Lib.hid (ST3.out.below hb4)
                  have C4 := Lib.hid (C3.out.below hb4)
                  clear he hb4 ST3 C3
                  go_wp2_with fail
                  go_meet
                  case rel => exact ⟨⟨#[]⟩, cs, rfl, rfl, hcs, .inr ⟨2, by omega, C4.out, rfl⟩, ST4.out⟩
            · skip
              by_cases hd2 : kd = 2
              · subst hd2
                by_cases hl : 2 ≤ cs.length
                · as_aux_lemma =>
                    obtain ⟨b0, b1, rs, rfl⟩ : ∃ b0 b1 rs, cs = b0 :: b1 :: rs := by
                      match cs, hl with
                      | b0 :: b1 :: rs, _ => exact ⟨b0, b1, rs, rfl⟩
                    have hrl : rs.length ≤ 200 := by simp at hcs; omega
                    go_wp2_with fail
                    refine (U16_ok _ b0 b1 rs _ ST.out.rdr (by simp at hcs ⊢; omega)).mono ?_
                    rintro e w3 ⟨he, hr3, hf3, hz3⟩
                    obtain ⟨hq1, hq2, hst⟩ := ST.out.both hf3 hr3 hpq.out hr1 hs2
                    have ST3 := Lib.hid hst
                    clear hr3 hf3 hz3 hst
                    obtain ⟨N, hN⟩ : ∃ N : Nat, N = b0.toNat * 256 + b1.toNat := ⟨_, rfl⟩
                    have he' : e = .returned (.tuple #[.int .u16 (N : Int), .nilIface]) := by rw [he, hN]; simp
                    subst he'
                    have hb0 := b0.toNat_lt
                    have hb1 := b1.toNat_lt
                    have hNl : N < 65536 := by omega
                    have HX : Hid (be2 N = [b0, b1]) := by show _ = _; rw [hN]; exact be2_of b0 b1
                    clear hN he hb0 hb1
                    go_wp2_with fail
                    refine (refTake_ok _ _ 2 _ hq1 hq2 (by simp) (by simp at hcs ⊢; omega)).mono ?_
                    rintro e w4 ⟨he, hw4⟩
                    have he' : e = .returned (.tuple #[.string (txt [b0, b1]), .string ⟨#[]⟩]) := he
                    subst he'
                    have ST4 : Hid (St w ⟨r, 0, none⟩ ⟨sq, 0, none⟩ rs w4) := by have := ST3.out; rw [← hw4]; exact this
                    have hsz : (txt [b0, b1]).size = 2 := rfl
                    clear he hw4 hq1 hq2 ST3
                    go_wp2_with fail
                    refine (refText2 N _ (by omega)).mono ?_
                    rintro e w5 ⟨rfl, hb5⟩
                    have ST5 := Lib.hid (ST4.out.below hb5)
                    clear hb5 ST4 hsz
                    go_wp2_with fail
                    go_meet
                    case rel => exact ⟨txt [b0, b1], rs, by rw [HX.out], rfl, hrl, .inl ⟨rfl, rfl⟩, ST5.out⟩
                · as_aux_lemma =>
                    go_wp2_with fail
                    refine (U16_short _ cs _ ST.out.rdr (by omega)).mono ?_
                    rintro e w3 ⟨rfl, hw3⟩
                    obtain ⟨hch, hb3⟩ := wrong_facts 2 octetsWord hw3
                    have C3 := Lib.hid hch
                    have ST3 := Lib.hid (ST.out.below hb3)
                    clear hch hb3 hw3
                    go_wp2_with fail
                    refine (refTake_short _ cs 2 _ ST3.out.cell (by omega)).mono ?_
                    rintro e w' ⟨rfl, rfl⟩
                    go_wp2_with fail
                    refine (refText0 0 _ (by omega)).mono ?_
                    rintro e w4 ⟨he, hb4⟩
                    have he' : e = .returned (.string ⟨#[]⟩) := he
                    subst he'
                    have ST4 := Lib.hid (ST3.out.below hb4)
                    have C4 := Lib.hid (C3.out.below hb4)
                    clear he hb4 ST3 C3
                    go_wp2_with fail
                    go_meet
                    case rel => exact ⟨⟨#[]⟩, cs, rfl, rfl, hcs, .inr ⟨2, by omega, C4.out, rfl⟩, ST4.out⟩
              · skip
                by_cases hd3 : kd = 3
                · subst hd3
                  by_cases hl : 4 ≤ cs.length
                  · as_aux_lemma =>
                      obtain ⟨b0, b1, b2, b3, rs, rfl⟩ : ∃ b0 b1 b2 b3 rs, cs = b0 :: b1 :: b2 :: b3 :: rs := by
                        match cs, hl with
                        | b0 :: b1 :: b2 :: b3 :: rs, _ => exact ⟨b0, b1, b2, b3, rs, rfl⟩
                      have hrl : rs.length ≤ 200 := by simp at hcs; omega
                      go_wp2_with fail
                      refine (U32_ok _ b0 b1 b2 b3 rs _ ST.out.rdr (by simp at hcs ⊢; omega)).mono ?_
                      rintro e w3 ⟨he, hr3, hf3, hz3⟩
                      obtain ⟨hq1, hq2, hst⟩ := ST.out.both hf3 hr3 hpq.out hr1 hs2
                      have ST3 := Lib.hid hst
                      clear hr3 hf3 hz3 hst
                      obtain ⟨N, hN⟩ : ∃ N : Nat, N = ((b0.toNat * 256 + b1.toNat) * 256 + b2.toNat) * 256 + b3.toNat := ⟨_, rfl⟩
                      have he' : e = .returned (.tuple #[.int .u32 (N : Int), .nilIface]) := by rw [he, hN]; simp
                      subst he'
                      have hb0 := b0.toNat_lt
                      have hb1 := b1.toNat_lt
                      have hb2 := b2.toNat_lt
                      have hb3 := b3.toNat_lt
                      have hNl : N < 4294967296 := by omega
                      have HX : Hid (be4 N = [b0, b1, b2, b3]) := by show _ = _; rw [hN]; exact be4_of b0 b1 b2 b3
                      clear hN he hb0 hb1 hb2 hb3
                      go_wp2_with fail
                      refine (refTake_ok _ _ 4 _ hq1 hq2 (by simp) (by simp at hcs ⊢; omega)).mono ?_
                      rintro e w4 ⟨he, hw4⟩
                      have he' : e = .returned (.tuple #[.string (txt [b0, b1, b2, b3]), .string ⟨#[]⟩]) := he
                      subst he'
                      have ST4 : Hid (St w ⟨r, 0, none⟩ ⟨sq, 0, none⟩ rs w4) := by have := ST3.out; rw [← hw4]; exact this
                      have hsz : (txt [b0, b1, b2, b3]).size = 4 := rfl
                      clear he hw4 hq1 hq2 ST3
                      go_wp2_with fail
                      refine (refText4 N _ (by omega)).mono ?_
                      rintro e w5 ⟨rfl, hb5⟩
                      have ST5 := Lib.hid (ST4.out.below hb5)
                      clear hb5 ST4 hsz
                      go_wp2_with fail
                      go_meet
                      case rel => exact ⟨txt [b0, b1, b2, b3], rs, by rw [HX.out], rfl, hrl, .inl ⟨rfl, rfl⟩, ST5.out⟩
                  · as_aux_lemma =>
                      go_wp2_with fail
                      refine (U32_short _ cs _ ST.out.rdr (by omega)).mono ?_
                      rintro e w3 ⟨rfl, hw3⟩
                      obtain ⟨hch, hb3⟩ := wrong_facts 2 octetsWord hw3
                      have C3 := Lib.hid hch
                      have ST3 := Lib.hid (ST.out.below hb3)
                      clear hch hb3 hw3
                      go_wp2_with fail
                      refine (refTake_short _ cs 4 _ ST3.out.cell (by omega)).mono ?_
                      rintro e w' ⟨rfl, rfl⟩
                      go_wp2_with fail
                      refine (refText0 0 _ (by omega)).mono ?_
                      rintro e w4 ⟨he, hb4⟩
                      have he' : e = .returned (.string ⟨#[]⟩) := he
                      subst he'
                      have ST4 := Lib.hid (ST3.out.below hb4)
                      have C4 := Lib.hid (C3.out.below hb4)
                      clear he hb4 ST3 C3
                      go_wp2_with fail
                      go_meet
                      case rel => exact ⟨⟨#[]⟩, cs, rfl, rfl, hcs, .inr ⟨2, by omega, C4.out, rfl⟩, ST4.out⟩
                · skip
                  by_cases hd4 : kd = 4
                  · subst hd4
                    by_cases hneg : n < 0
                    · as_aux_lemma =>
                        go_wp2_with fail
                        refine (Bytes_neg _ n _ hneg).mono ?_
                        rintro e w3 ⟨rfl, hw3⟩
                        obtain ⟨hch, hb3⟩ := wrong_facts 1 octetsWord hw3
                        have C3 := Lib.hid hch
                        have ST3 := Lib.hid (ST.out.below hb3)
                        have hk1b : w3.cell? ⟨gS, oS + k2 * 2 + 1, none⟩ = some (.int .i64 n) := (hb3.cell (World.block_lt_of_cell? _ _ hk1')).trans hk1'
                        have hcv := convert_rd (Rd.nil w3)
                        have hemp : txt [] = ⟨#[]⟩ := rfl
                        clear hch hb3 hw3
                        go_wp2_with fail
                        refine (refTake_neg _ n _ hneg).mono ?_
                        rintro e w' ⟨rfl, rfl⟩
                        go_wp2_with fail
                        refine wp_loop_rounds 1 ?_
                        rw [rounds_succ]
                        go_wp2_with fail
                        go_meet
                        case rel => exact ⟨⟨#[]⟩, cs, rfl, rfl, hcs, .inr ⟨1, by omega, C3.out, rfl⟩, ST3.out⟩
                    · by_cases hbig : (cs.length : Int) < n
                      · as_aux_lemma =>
                          go_wp2_with fail
                          refine (Bytes_short _ cs n _ ST.out.rdr hbig).mono ?_
                          rintro e w3 ⟨rfl, hw3⟩
                          obtain ⟨hch, hb3⟩ := wrong_facts 2 octetsWord hw3
                          have C3 := Lib.hid hch
                          have ST3 := Lib.hid (ST.out.below hb3)
                          have hk1b : w3.cell? ⟨gS, oS + k2 * 2 + 1, none⟩ = some (.int .i64 n) := (hb3.cell (World.block_lt_of_cell? _ _ hk1')).trans hk1'
                          have hcv := convert_rd (Rd.nil w3)
                          have hemp : txt [] = ⟨#[]⟩ := rfl
                          clear hch hb3 hw3
                          go_wp2_with fail
                          refine (refTake_short _ cs n _ ST3.out.cell hbig).mono ?_
                          rintro e w' ⟨rfl, rfl⟩
                          go_wp2_with fail
                          refine wp_loop_rounds 1 ?_
                          rw [rounds_succ]
                          go_wp2_with fail
                          go_meet
                          case rel => exact ⟨⟨#[]⟩, cs, rfl, rfl, hcs, .inr ⟨2, by omega, C3.out, rfl⟩, ST3.out⟩
                      · as_aux_lemma =>
                          obtain ⟨nn, rfl⟩ := Int.eq_ofNat_of_zero_le (show 0 ≤ n by omega)
                          have hnn : nn ≤ cs.length := by omega
                          have hnl : (cs.take nn).length = nn := by rw [List.length_take]; omega
                          go_wp2_with fail
                          refine (Bytes_in _ cs nn _ ST.out.rdr hnn (by omega)).mono ?_
                          rintro e w3 ⟨rfl, htk⟩
                          have hk1b : w3.cell? ⟨gS, oS + k2 * 2 + 1, none⟩ = some (.int .i64 (nn : Int)) := (htk.fr.cell _ (World.block_lt_of_cell? _ _ hk1') (fun e => by have e' : (⟨gS, oS + k2 * 2 + 1, none⟩ : Addr) = ⟨r, 0, none⟩ := e; obtain ⟨Ax, hx1, _⟩ := ST.out.rdr; rw [← e', hk1'] at hx1; cases hx1)).trans hk1'
                          obtain ⟨hq1, hq2, hst⟩ := ST.out.both htk.fr htk.rdr.rdr hpq.out hr1 hs2
                          obtain ⟨gN, hgN⟩ : ∃ gN, gN = wr.heap.size := ⟨_, rfl⟩
                          have hpt := htk.rdr
                          have hpart := htk.part
                          rw [← hgN] at hpt hpart ⊢
                          have hqlt : sq < gN := by rw [hgN]; exact World.block_lt_of_cell? wr _ ST.out.cell
                          have hrlt : r < gN := by rw [hgN]; exact ST.out.rdr.at_
                          clear hgN
                          go_wp2_with fail
                          refine (refTake_ok _ cs nn _ hq1 hq2 hnn (by omega)).mono ?_
                          rintro e w4 ⟨rfl, hw4⟩
                          have ST4 : Hid (St w ⟨r, 0, none⟩ ⟨sq, 0, none⟩ (cs.drop nn) w4) := by have := hst; rw [← hw4]; exact this
                          have hp4 : w4.heap[gN]? = some (bytesObj (cs.take nn)) := by rw [← hw4, Below.heap_setCell _ _ _ _ (by show gN ≠ sq; omega)]; exact hpart
                          have PT : Hid (RdrIn (fun k => k < gN) w4 ⟨r, 0, none⟩ (cs.drop nn) ∧ sq < gN ∧ r < gN ∧ w.heap.size ≤ gN) := by
                            refine ⟨?_, hqlt, hrlt, by omega⟩
                            rw [← hw4]
                            refine rdrIn_set hpt hq1 hpq.out _
                          have hrd4 : Rd w4 (.slice (some ⟨gN, 0, none⟩) nn nn) (cs.take nn) := by have := Rd.of_obj (c := nn) hp4 (by omega); rwa [hnl] at this
                          have hcv := convert_rd hrd4
                          have AN : Hid (Any w4 gN nn) := ⟨_, hp4, by rw [List.size_toArray, List.length_map, hnl]; exact Nat.le_refl _⟩
                          have hdl : (cs.drop nn).length ≤ 200 := by rw [List.length_drop]; omega
                          clear hw4 hp4 hrd4 hst hpart hpt htk hq1 hq2
                          go_wp2_with fail
                          clear hcv
                          go_loopw [23] (fun i wz => OverRel w4 gN nn i wz) (fun i _ => nn - (intOf i).toNat)
                          case atStart => exact ⟨0, by omega, rfl, AN.out, Fr.refl _ _⟩
                          case round =>
                            obtain ⟨kk, hkk, rfl, han, hfr⟩ := hrel
                            have AN2 := Lib.hid han
                            have FR := Lib.hid hfr
                            clear han hfr
                            by_cases hlk : kk < nn
                            · obtain ⟨⟨v, hv⟩, hfz⟩ := AN2.out.cell hlk
                              go_wp2_with fail
                              go_roundw
                              case rel => exact ⟨kk + 1, by omega, by go_num, AN2.out.set _ _, FR.out.set _ _ rfl⟩
                              case measure => simp [intOf]; omega
                            · have ST6 := Lib.hid (part_over ST4.out PT.out FR.out)
                              clear AN AN2 FR
                              go_wp2_with fail
                              go_meet
                              case rel => exact ⟨txt (cs.take nn), cs.drop nn, rfl, rfl, hdl, .inl ⟨rfl, rfl⟩, ST6.out⟩
                  · skip
                    by_cases hd5 : kd = 5
                    · as_aux_lemma =>
                        subst hd5
                        obtain ⟨nn, hnn'⟩ : ∃ nn, nn = cs.length := ⟨_, rfl⟩
                        have hnn : nn ≤ cs.length := by omega
                        have hnl : (cs.take nn).length = nn := by rw [List.length_take]; omega
                        go_wp2_with fail
                        refine (Rest_in _ cs _ ST.out.rdr (by omega)).mono ?_
                        rintro e w3 ⟨he, htk⟩
                        have he' : e = .returned (.slice (some ⟨wr.heap.size, 0, none⟩) nn nn) := by rw [he, hnn']
                        subst he'
                        rw [← hnn'] at htk
                        obtain ⟨hq1, hq2, hst⟩ := ST.out.both htk.fr htk.rdr.rdr hpq.out hr1 hs2
                        obtain ⟨gN, hgN⟩ : ∃ gN, gN = wr.heap.size := ⟨_, rfl⟩
                        have hpt := htk.rdr
                        have hpart := htk.part
                        rw [← hgN] at hpt hpart ⊢
                        have hqlt : sq < gN := by rw [hgN]; exact World.block_lt_of_cell? wr _ ST.out.cell
                        have hrlt : r < gN := by rw [hgN]; exact ST.out.rdr.at_
                        have hszq : (txt cs).size = nn := by rw [txt_size, hnn']
                        clear he hnn' hgN
                        go_wp2_with fail
                        refine (refTake_ok _ cs nn _ hq1 hq2 hnn (by omega)).mono ?_
                        rintro e w4 ⟨rfl, hw4⟩
                        have ST4 : Hid (St w ⟨r, 0, none⟩ ⟨sq, 0, none⟩ (cs.drop nn) w4) := by have := hst; rw [← hw4]; exact this
                        have hp4 : w4.heap[gN]? = some (bytesObj (cs.take nn)) := by rw [← hw4, Below.heap_setCell _ _ _ _ (by show gN ≠ sq; omega)]; exact hpart
                        have PT : Hid (RdrIn (fun k => k < gN) w4 ⟨r, 0, none⟩ (cs.drop nn) ∧ sq < gN ∧ r < gN ∧ w.heap.size ≤ gN) := by
                          refine ⟨?_, hqlt, hrlt, by omega⟩
                          rw [← hw4]
                          refine rdrIn_set hpt hq1 hpq.out _
                        have hrd4 : Rd w4 (.slice (some ⟨gN, 0, none⟩) nn nn) (cs.take nn) := by have := Rd.of_obj (c := nn) hp4 (by omega); rwa [hnl] at this
                        have hcv := convert_rd hrd4
                        have AN : Hid (Any w4 gN nn) := ⟨_, hp4, by rw [List.size_toArray, List.length_map, hnl]; exact Nat.le_refl _⟩
                        have hdl : (cs.drop nn).length ≤ 200 := by rw [List.length_drop]; omega
                        clear hw4 hp4 hrd4 hst hpart hpt htk hq1 hq2
                        go_wp2_with fail
                        clear hcv
                        go_loopw [25] (fun i wz => OverRel w4 gN nn i wz) (fun i _ => nn - (intOf i).toNat)
                        case atStart => exact ⟨0, by omega, rfl, AN.out, Fr.refl _ _⟩
                        case round =>
                          obtain ⟨kk, hkk, rfl, han, hfr⟩ := hrel
                          have AN2 := Lib.hid han
                          have FR := Lib.hid hfr
                          clear han hfr
                          by_cases hlk : kk < nn
                          · obtain ⟨⟨v, hv⟩, hfz⟩ := AN2.out.cell hlk
                            go_wp2_with fail
                            go_roundw
                            case rel => exact ⟨kk + 1, by omega, by go_num, AN2.out.set _ _, FR.out.set _ _ rfl⟩
                            case measure => simp [intOf]; omega
                          · have ST6 := Lib.hid (part_over ST4.out PT.out FR.out)
                            clear AN AN2 FR
                            go_wp2_with fail
                            go_meet
                            case rel => exact ⟨txt (cs.take nn), cs.drop nn, rfl, rfl, hdl, .inl ⟨rfl, rfl⟩, ST6.out⟩
                    · skip
                      by_cases hd6 : kd = 6
                      · subst hd6
                        have hq1 := ST.out.cell
                        by_cases hz : cs.length = 0
                        · as_aux_lemma =>
                            obtain rfl := List.eq_nil_of_length_eq_zero hz
                            have hsz : (txt []).size = 0 := rfl
                            go_wp2_with fail
                            refine (done_nil _ _ ST.out.rdr).mono ?_
                            rintro e w' ⟨rfl, rfl⟩
                            go_wp2_with fail
                            go_meet
                            case rel => exact ⟨⟨#[]⟩, [], rfl, rfl, hcs, .inl ⟨rfl, rfl⟩, ST.out⟩
                        · as_aux_lemma =>
                            have hz1 : 0 < cs.length := by omega
                            have hsz : 0 < (txt cs).size := by rw [txt_size]; exact hz1
                            have hsz0 : ¬ (txt cs).size = 0 := by omega
                            go_wp2_with fail
                            refine (done_some _ cs _ ST.out.rdr hz1).mono ?_
                            rintro e w3 ⟨rfl, hw3⟩
                            obtain ⟨hch, hb3⟩ := wrong_facts 3 octetsWord hw3
                            have C3 := Lib.hid hch
                            have ST3 := Lib.hid (ST.out.below hb3)
                            have hq3 := ST3.out.cell
                            clear hch hb3 hw3 hq1
                            go_wp2_with fail
                            go_meet
                            case rel => exact ⟨⟨#[]⟩, cs, rfl, rfl, hcs, .inr ⟨3, by omega, C3.out, rfl⟩, ST3.out⟩
                      · as_aux_lemma =>
                          go_wp2_with fail
                          go_meet
                          case rel => exact ⟨⟨#[]⟩, cs, rfl, rfl, hcs, .inl ⟨rfl, rfl⟩, ST.out⟩
          case rest =>
            obtain ⟨T, bs2, rfl, rfl, hb2, herr, hst⟩ := hcut
            have hq2 := hst.cell
            have hsz : (txt bs2).size = bs2.length := txt_size _
            have hlf : ∀ m : Nat, Calls Tryd.prog 20 #[.pointer (some ⟨r, 0, none⟩)] (wc.drewN m) fun e w' => e = .returned (.int .i64 bs2.length) ∧ w' = wc.drewN m := fun m => (left_any _ bs2 _ (hst.rdr.below (below_drewN wc m))).mono fun _ _ ⟨x, y⟩ => ⟨x, y.symm⟩
            have HLF := Lib.hid hlf
            have hend : ∀ m : Nat, ReadsRel w ⟨r, 0, none⟩ ⟨sq, 0, none⟩ (.int .i64 ((k2 : Int) + 1)) (wc.drewN m) := fun m => ⟨k2 + 1, bs2, by omega, hb2, by go_num, hst.rdr.below (below_drewN wc m), hst.cell, hst.free, ⟨hst.old.os, hst.old.tape, hst.old.output, hst.old.size, hst.old.block⟩⟩
            have HEND := Lib.hid hend
            rcases herr with ⟨rfl, rfl⟩ | ⟨m, hm, hch, rfl⟩
            · as_aux_lemma =>
                have htd : ∀ m : Nat, Calls Tryd.prog 19 #[.nilIface] (wc.drewN m) fun e w' => e = .returned (.string ⟨#[]⟩) ∧ w' = wc.drewN m := fun m => (told_nil _).mono fun _ _ ⟨x, y⟩ => ⟨x, y.symm⟩
                have HTD := Lib.hid htd
                clear htd hlf hend hst ST
                go_wp2_with fail
                go_quiet (first | (go_at_call 19; exact Calls.quiet_of_same (HTD.out _)) | (go_at_call 20; exact Calls.quiet_of_same (HLF.out _)))
                go_wp2_with fail
                exact ⟨HEND.out _, by simp [intOf]; omega⟩
            · as_aux_lemma =>
                have htd : ∀ j : Nat, Calls Tryd.prog 19 #[_] (wc.drewN j) fun e w' => e = .returned (.string (text m [octetsWord])) ∧ ∃ i, w' = (wc.drewN j).drewN i := fun j => told_any m hm [octetsWord] _ _ (by simp only [text, ByteArray.size_append]; have h1 := dec_size m; have h2 : octetsWord.size = 6 := rfl; have h3 : colon.size = 2 := rfl; have h4 : errorWord.size = 6 := rfl; omega) (Chain.keep (w := wc) (w' := wc.drewN j) (fun _ _ h => h) hch)
                have HTD := Lib.hid htd
                clear htd hlf hend hst ST hch
                go_wp2_with fail
                go_quiet (first | (go_at_call 19; exact Calls.quiet_of (HTD.out _)) | (go_at_call 20; exact Calls.quiet_of_same (HLF.out _)))
                go_wp2_with fail
                exact ⟨HEND.out _, by simp [intOf]; omega⟩
        · by_cases hkM : k2 < M
          · as_aux_lemma =>
              have hk50 : ¬ k2 < 50 := fun h => hlt ⟨hkM, h⟩
              clear hlt
              go_wp2_with fail
              go_ret
              exact ⟨rfl, ST.out.old⟩
          · as_aux_lemma =>
              clear hlt
              go_wp2_with fail
              go_ret
              exact ⟨rfl, ST.out.old⟩
end Go.Proofs.YtgbopegjieonhaaDoor
