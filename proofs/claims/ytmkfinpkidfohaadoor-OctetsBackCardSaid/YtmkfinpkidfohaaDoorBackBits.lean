/-
  What is proved: what stands beside a writer in the law OctetsBack (a row of puts, the law's own copy of one), and what is read back of each put.
  Conditions: fewer than 2^40 bytes.
-/
import Derived.Test.YtmkfinpkidfohaaDoorOne
import Derived.Test.YtmkfinpkidfohaaDoorBackRow
namespace Go.Proofs.YtmkfinpkidfohaaDoor
open Go.RowKit

/-- The row of puts that were put, beside a writer. -/
structure Kept (w : World) (q : Nat) (row : Option Nat) (v : Value) (l : List PutV) (wr : World) : Prop where
  own : wr.ownsRow 0 30 3 v l.length (l.flatMap PutV.cells)
  new : ∀ g, v.ownBlock = some g → w.heap.size ≤ g ∧ g ≠ q ∧ row ≠ some g ∧ g < wr.heap.size
  ok : ∀ p ∈ l, p.Ok w
theorem Kept.fr {w : World} {q : Nat} {row row' : Option Nat} {v : Value} {l : List PutV} {a b : World} {P : Addr → Prop} (h : Kept w q row v l a) (hf : Fr P a b) (hP : ∀ g, v.ownBlock = some g → ∀ x, P x → x.block ≠ g) (hl : Later a row row') : Kept w q row' v l b := by
  refine ⟨⟨h.own.1, ?_⟩, fun g hg => ?_, h.ok⟩
  · rcases h.own.2 with hn | ⟨g, cap, cur, rfl, hb, hgg, rest⟩
    · exact .inl hn
    · refine .inr ⟨g, cap, cur, rfl, hb, ?_, rest⟩
      rw [hf.block g (h.new g rfl).2.2.2 (fun x hx => hP g rfl x hx)]
      exact hgg
  · obtain ⟨h1, h2, h3, h4⟩ := h.new g hg
    refine ⟨h1, h2, ?_, Nat.lt_of_lt_of_le h4 hf.size⟩
    rcases hl with e | ⟨j, e, hj⟩
    · rw [e]; exact h3
    · rw [e]; intro e'; have := Option.some.inj e'; omega
theorem Kept.below {w : World} {q : Nat} {row : Option Nat} {v : Value} {l : List PutV} {a b : World} (h : Kept w q row v l a) (hb : Below a.heap.size a b) : Kept w q row v l b :=
  h.fr (P := fun _ => False) (Fr.of_below hb) (fun _ _ _ h => h.elim) (.inl rfl)
/-- The law's own copy of a put. -/
structure Box (w : World) (q : Nat) (row : Option Nat) (v : Value) (b : Nat) (kd : Int) (n : Nat) (s : Value) (wr : World) : Prop where
  c0 : wr.cell? ⟨b, 0, none⟩ = some (.int .i64 kd)
  c1 : wr.cell? ⟨b, 1, none⟩ = some (.int .u32 (n : Int))
  c2 : wr.cell? ⟨b, 2, none⟩ = some s
  fz : ∀ i, wr.frozen? ⟨b, i, none⟩ = false
  new : w.heap.size ≤ b
  nq : b ≠ q
  nr : row ≠ some b
  nv : v.ownBlock ≠ some b
theorem Box.lt {w : World} {q : Nat} {row : Option Nat} {v : Value} {b : Nat} {kd : Int} {n : Nat} {s : Value} {wr : World} (h : Box w q row v b kd n s wr) : b < wr.heap.size := World.block_lt_of_cell? wr _ h.c0
theorem Box.fr {w : World} {q : Nat} {row row' : Option Nat} {v : Value} {b : Nat} {kd : Int} {n : Nat} {s : Value} {x y : World} (h : Box w q row v b kd n s x) (hf : Fr (WtrAt ⟨q, 0, none⟩ row) x y) (hl : Later x row row') : Box w q row' v b kd n s y := by
  have hn : ∀ i, ¬ WtrAt ⟨q, 0, none⟩ row ⟨b, i, none⟩ := by
    intro i hi
    rcases hi with hi | hi
    · injection hi with hi _; exact h.nq hi
    · exact h.nr hi.symm
  have hlt := h.lt
  refine ⟨(hf.cell _ hlt (hn 0)).trans h.c0, (hf.cell _ hlt (hn 1)).trans h.c1, (hf.cell _ hlt (hn 2)).trans h.c2, fun i => (hf.frozen _ hlt (hn i)).trans (h.fz i), h.new, h.nq, ?_, h.nv⟩
  rcases hl with e | ⟨j, e, hj⟩
  · rw [e]; exact h.nr
  · rw [e]; intro e'; have := Option.some.inj e'; omega
/-- The copy's number is written. -/
theorem Box.setN {w : World} {q : Nat} {row : Option Nat} {v : Value} {b : Nat} {kd : Int} {n : Nat} {s : Value} {x : World} (h : Box w q row v b kd n s x) (m : Nat) : Box w q row v b kd m s (x.setCell ⟨b, 1, none⟩ (.int .u32 (m : Int))) :=
  ⟨by rw [World.cell?_setCell_other _ _ _ _ (by intro e; cases e)]; exact h.c0, World.cell?_setCell_same _ _ _ h.c1, by rw [World.cell?_setCell_other _ _ _ _ (by intro e; cases e)]; exact h.c2, fun i => by rw [frozen_setCell]; exact h.fz i, h.new, h.nq, h.nr, h.nv⟩
theorem Box.setB {w : World} {q : Nat} {row : Option Nat} {v : Value} {b : Nat} {kd : Int} {n : Nat} {s : Value} {x : World} (h : Box w q row v b kd n s x) (t : Value) : Box w q row v b kd n t (x.setCell ⟨b, 2, none⟩ t) :=
  ⟨by rw [World.cell?_setCell_other _ _ _ _ (by intro e; cases e)]; exact h.c0, by rw [World.cell?_setCell_other _ _ _ _ (by intro e; cases e)]; exact h.c1, World.cell?_setCell_same _ _ _ h.c2, fun i => by rw [frozen_setCell]; exact h.fz i, h.new, h.nq, h.nr, h.nv⟩
/-- What stands beside the copy, over a write to it. -/
theorem One.setBox {w : World} {q : Nat} {row : Option Nat} {v : Value} {b : Nat} {kd : Int} {n : Nat} {s : Value} {x : World} {bs : List UInt8} (h : One w q bs row x) (hb : Box w q row v b kd n s x) (i : Nat) (t : Value) : One w q bs row (x.setCell ⟨b, i, none⟩ t) :=
  h.over (g := b) (Fr.of_set x _ t rfl) (Ne.symm hb.nq) hb.nr hb.new
theorem Kept.setBox {w : World} {q : Nat} {row : Option Nat} {v : Value} {b : Nat} {kd : Int} {n : Nat} {s : Value} {x : World} {l : List PutV} (h : Kept w q row v l x) (hb : Box w q row v b kd n s x) (i : Nat) (t : Value) : Kept w q row v l (x.setCell ⟨b, i, none⟩ t) :=
  h.fr (P := fun y => y.block = b) (Fr.of_set x _ t rfl) (fun g hg y hy e => hb.nv (by rw [hg, ← e, hy])) (.inl rfl)
/-- A write to the writer, beside the copy and the row. -/
theorem wrote_beside {w : World} {q : Nat} {row : Option Nat} {v : Value} {b : Nat} {kd : Int} {n : Nat} {s : Value} {x y : World} {l : List PutV} {bs cs : List UInt8} (h : One w q bs row x) (hk : Kept w q row v l x) (hb : Box w q row v b kd n s x) (hw : Wrote ⟨q, 0, none⟩ row cs x y) :
    ∃ row', One w q cs row' y ∧ Kept w q row' v l y ∧ Box w q row' v b kd n s y := by
  obtain ⟨row', h1, h2⟩ := h.put hw
  obtain ⟨row2, k1, k2, k3⟩ := hw
  have h3 : One w q cs row2 y := by
    refine ⟨k1, fun k e => ?_, h1.old, h.q⟩
    rcases k2 with e2 | ⟨j, e2, hj⟩
    · exact h.lo k (by rw [← e2]; exact e)
    · rw [e2] at e; injection e with e; have := h.old.size; omega
  refine ⟨row2, h3, hk.fr k3 (fun g hg a ha e => ?_) k2, hb.fr k3 k2⟩
  obtain ⟨_, n2, n3, _⟩ := hk.new g hg
  rcases ha with ha | ha
  · subst ha; exact n2 e.symm
  · exact n3 (by rw [← ha, e])
/-- Behind the switch. -/
def BackCut (w : World) (q b : Nat) (v : Value) (l : List PutV) (kd : Int) (pb : Value) (wx : World) : Prop :=
  ∃ (row : Option Nat) (n m c : Nat) (B : Option Addr) (bs : List UInt8), pb = .pointer (some ⟨b, 0, none⟩) ∧ One w q bs row wx ∧ Kept w q row v l wx ∧ Box w q row v b kd n (.slice B m c) wx ∧
    ((∃ p : PutV, p.Ok w ∧ (p.kd : Int) = kd ∧ p.n = n ∧ p.B = B ∧ p.m = m ∧ p.c = c ∧ bs = wire (l ++ [p])) ∨ (kd = 4 ∧ m = 0 ∧ bs = wire l) ∨ ((kd < 1 ∨ 4 < kd) ∧ bs = wire l))
/-- A put more in the row. -/
theorem keep_put {w : World} {q : Nat} {row : Option Nat} {v : Value} {x : World} {l : List PutV} {bs : List UInt8} (h : One w q bs row x) (hk : Kept w q row v l x) (p : PutV) (hp : p.Ok w) (hL : l.length ≤ 1000) :
    ∃ v' y, (Builtin.append_ #[22, 22] 22 #[v, .slice (some ⟨x.heap.size, 0, none⟩) 1 1]).run Tryd.prog (x.alloc (.cells #[.int .i64 (p.kd : Int), .int .u32 (p.n : Int), .slice p.B p.m p.c] 30)) = .ok v' y ∧ One w q bs row y ∧ Kept w q row v' (l ++ [p]) y := by
  have hB : Below x.heap.size x (x.alloc (.cells #[.int .i64 (p.kd : Int), .int .u32 (p.n : Int), .slice p.B p.m p.c] 30)) := (Below.refl _ _).alloc (Nat.le_refl _) _
  have h1 := h.below hB
  have k1 := hk.below hB
  obtain ⟨v', y, hrun, ho, hg, hat⟩ := append_puts k1.own p ⟨x.heap.size, 0, none⟩ 1 (fun j u hu => by
    rw [Addr.add_lit, World.cell?_alloc_at _ _ _ _ rfl]
    match j, hu with
    | 0, hu => exact hu
    | 1, hu => exact hu
    | 2, hu => exact hu) (by omega)
  have hf : Fr (fun a => some a.block = v.ownBlock) (x.alloc (.cells #[.int .i64 (p.kd : Int), .int .u32 (p.n : Int), .slice p.B p.m p.c] 30)) y :=
    ⟨hg.os, hg.tape, hg.output, hg.size, fun a ha hn => World.cell?_of_block (hg.block a.block ha hn), fun a ha hn => World.frozen?_of_block (hg.block a.block ha hn), fun j hj hn => hg.block j hj (fun e => hn ⟨j, 0, none⟩ e rfl)⟩
  have hy : One w q bs row y := ⟨h1.a.fr hf (fun e => (k1.new _ e.symm).2.1 rfl) (fun a k e1 e2 e3 => (k1.new _ e2.symm).2.2.1 (by rw [e1, e3])), h1.lo, below_to h1.old (hf.below (B := w.heap.size) h1.old.size (fun a ha => (k1.new _ ha.symm).1)) (Nat.le_refl _), h1.q⟩
  refine ⟨v', y, hrun, hy, ho, fun g hg' => ?_, fun r hr => ?_⟩
  · have hgy : g < y.heap.size := (ho.lt g hg').2
    rcases hat with e | e
    · have := k1.new g (by rw [← e]; exact hg')
      exact ⟨this.1, this.2.1, this.2.2.1, hgy⟩
    · rw [e] at hg'
      have hg2 := Option.some.inj hg'
      have s1 := h1.old.size
      have s2 := h1.a.at_
      refine ⟨by omega, fun e' => by subst e'; have : g < _ := s2; omega, fun e' => ?_, hgy⟩
      have := h1.a.row_lt g e'
      omega
  · rcases List.mem_append.1 hr with hr | hr
    · exact hk.ok r hr
    · rw [List.mem_singleton.1 hr]; exact hp
theorem ok_num (w : World) (kd n : Nat) (B : Option Addr) (m c : Nat) (h : kd = 1 ∧ n < 256 ∨ kd = 2 ∧ n < 65536 ∨ kd = 3 ∧ n < 4294967296) : (PutV.mk kd n B m c []).Ok w :=
  ⟨by show 1 ≤ kd ∧ kd ≤ 4; omega, by show (kd = 1 → n < 256) ∧ (kd = 2 → n < 65536) ∧ n < 4294967296; omega, by intro h4; have h4' : kd = 4 := h4; omega⟩
theorem ok_part (w : World) (n : Nat) (B : Option Addr) (m c : Nat) (ps : List UInt8) (hn : n < 4294967296) (hm : m = ps.length) (h0 : 0 < m) (h1 : m ≤ 100) (hr : Rd w (.slice B m c) ps) : (PutV.mk 4 n B m c ps).Ok w :=
  ⟨by show 1 ≤ 4 ∧ 4 ≤ 4; omega, by show (4 = 1 → n < 256) ∧ (4 = 2 → n < 65536) ∧ n < 4294967296; omega, fun _ => ⟨hm, by show 0 < ps.length; omega, by show ps.length ≤ 100; omega, hr⟩⟩
theorem wire_one (l : List PutV) (p : PutV) : wire (l ++ [p]) = wire l ++ p.bytes := by simp [wire]
/-- What is read: all that was put, or all but the last byte. -/
def rem (ct : Bool) (l : List PutV) : List UInt8 := if ct then (wire l).dropLast else wire l
theorem wire_cons (p : PutV) (l : List PutV) : wire (p :: l) = p.bytes ++ wire l := by simp [wire]
theorem rem_last (p : PutV) : rem true [p] = p.bytes.dropLast := by simp [rem, wire]
theorem rem_cons {w : World} {ct : Bool} {p : PutV} {l : List PutV} (h : ∀ x ∈ l, x.Ok w) (hn : ¬ (ct = true ∧ l = [])) : rem ct (p :: l) = p.bytes ++ rem ct l := by
  unfold rem
  rw [wire_cons]
  cases ct
  · rfl
  · simp only [if_true]
    have hne : wire l ≠ [] := by
      cases l with
      | nil => exact absurd ⟨rfl, rfl⟩ hn
      | cons x r =>
        intro e
        have h1 := (h x (List.mem_cons_self ..)).pos
        rw [wire_cons] at e
        rw [List.append_eq_nil_iff] at e
        rw [e.1] at h1
        simp at h1
    rw [List.dropLast_append_of_ne_nil hne]
/-- At the head of each round of the first loop. -/
def BackRel (w : World) (q : Nat) (v i : Value) (wr : World) : Prop :=
  ∃ (k : Nat) (l : List PutV) (row : Option Nat), k ≤ 50 ∧ l.length ≤ k ∧ i = .int .i64 (k : Int) ∧ One w q (wire l) row wr ∧ Kept w q row v l wr

/-- What was read of the put 'p': it is too short just where the last byte is not there. -/
def Got (w5 : World) (ct : Bool) (r N j : Nat) (l : List PutV) (good : World → Prop) (ev : Value) (wx : World) : Prop :=
  Fr (· = ⟨r, 0, none⟩) w5 wx ∧ ((ct = true ∧ j + 1 = N ∧ Chain wx 2 [octetsWord] ev) ∨ (¬ (ct = true ∧ j + 1 = N) ∧ ev = .nilIface ∧ Rdr wx ⟨r, 0, none⟩ (rem ct (l.drop (j + 1))) ∧ good wx))
theorem Got.mono {w5 : World} {ct : Bool} {r N j : Nat} {l : List PutV} {good good' : World → Prop} {ev : Value} {wx : World} (h : Got w5 ct r N j l good ev wx) (hg : ∀ y, good y → good' y) : Got w5 ct r N j l good' ev wx := by
  obtain ⟨h1, h2 | ⟨h3, h4, h5, h6⟩⟩ := h
  · exact ⟨h1, .inl h2⟩
  · exact ⟨h1, .inr ⟨h3, h4, h5, hg _ h6⟩⟩
section
variable {w w5 wr : World} {ct : Bool} {r N j : Nat} {l : List PutV} {p : PutV}
theorem rem_short (hN : l.length = N) (hd : l.drop j = p :: l.drop (j + 1)) (h : ct = true ∧ j + 1 = N) : rem ct (l.drop j) = p.bytes.dropLast := by
  have e : l.drop (j + 1) = [] := List.drop_eq_nil_of_le (by omega)
  rw [hd, e, h.1, rem_last]
theorem rem_long (hN : l.length = N) (hok : ∀ x ∈ l, x.Ok w) (hd : l.drop j = p :: l.drop (j + 1)) (h : ¬ (ct = true ∧ j + 1 = N)) : rem ct (l.drop j) = p.bytes ++ rem ct (l.drop (j + 1)) := by
  rw [hd]
  refine rem_cons (w := w) (fun x hx => hok x (List.mem_of_mem_drop hx)) (fun hh => h ⟨hh.1, ?_⟩)
  have h1 := congrArg List.length hh.2
  have h2 := congrArg List.length hd
  simp at h1 h2
  omega
theorem short_fr {v : Value} {y : World} (hf : Fr (· = ⟨r, 0, none⟩) w5 wr) (hw : wr.alloc (wrongObj octetsWord 2) = y) (hv : v = .iface 69 (.pointer (some ⟨wr.heap.size, 0, none⟩))) (h : ct = true ∧ j + 1 = N) (good : World → Prop) : Got w5 ct r N j l good v y := by
  obtain ⟨hch, hb⟩ := wrong_facts 2 octetsWord hw
  subst hv
  exact ⟨hf.trans (Fr.of_below hb), .inl ⟨h.1, h.2, hch⟩⟩
theorem got8 (hN : l.length = N) (hok : ∀ x ∈ l, x.Ok w) (hd : l.drop j = p :: l.drop (j + 1)) (hp : p.Ok w) (hk : p.kd = 1) (hr : Rdr wr ⟨r, 0, none⟩ (rem ct (l.drop j))) (hf : Fr (· = ⟨r, 0, none⟩) w5 wr) (hl : (rem ct (l.drop j)).length ≤ 1099511627776) :
    Calls Tryd.prog 13 #[.pointer (some ⟨r, 0, none⟩)] wr fun e w' => ∃ (x : Nat) (ev : Value), e = .returned (.tuple #[.int .u8 (x : Int), ev]) ∧ x < 256 ∧ Got w5 ct r N j l (fun _ => x = p.n) ev w' := by
  have hb : p.bytes = [UInt8.ofNat p.n] := by unfold PutV.bytes; rw [if_pos hk]
  by_cases h : ct = true ∧ j + 1 = N
  · refine (U8_short _ _ _ hr (by rw [rem_short hN hd h, hb]; simp)).mono ?_
    rintro e y ⟨rfl, hw⟩
    exact ⟨0, _, rfl, by omega, short_fr hf hw rfl h _⟩
  · rw [rem_long hN hok hd h, hb] at hr hl
    refine (U8_ok _ _ _ _ hr hl).mono ?_
    rintro e y ⟨rfl, h1, h2, _⟩
    have hn := hp.num.1 hk
    have hx : (UInt8.ofNat p.n).toNat = p.n := by rw [ofNat_lt]; omega
    exact ⟨(UInt8.ofNat p.n).toNat, _, rfl, by omega, hf.trans h2, .inr ⟨h, rfl, h1, hx⟩⟩
theorem got16 (hN : l.length = N) (hok : ∀ x ∈ l, x.Ok w) (hd : l.drop j = p :: l.drop (j + 1)) (hp : p.Ok w) (hk : p.kd = 2) (hr : Rdr wr ⟨r, 0, none⟩ (rem ct (l.drop j))) (hf : Fr (· = ⟨r, 0, none⟩) w5 wr) (hl : (rem ct (l.drop j)).length ≤ 1099511627776) :
    Calls Tryd.prog 14 #[.pointer (some ⟨r, 0, none⟩)] wr fun e w' => ∃ (x : Nat) (ev : Value), e = .returned (.tuple #[.int .u16 (x : Int), ev]) ∧ x < 65536 ∧ Got w5 ct r N j l (fun _ => x = p.n) ev w' := by
  have hb : p.bytes = be2 p.n := by unfold PutV.bytes; rw [if_neg (by omega), if_pos hk]
  by_cases h : ct = true ∧ j + 1 = N
  · refine (U16_short _ _ _ hr (by rw [rem_short hN hd h, hb]; simp [be2])).mono ?_
    rintro e y ⟨rfl, hw⟩
    exact ⟨0, _, rfl, by omega, short_fr hf hw rfl h _⟩
  · rw [rem_long hN hok hd h, hb] at hr hl
    refine (U16_ok _ (UInt8.ofNat (p.n / 256)) (UInt8.ofNat p.n) _ _ hr hl).mono ?_
    rintro e y ⟨rfl, h1, h2, _⟩
    have hn := hp.num.2.1 hk
    have hx : ((UInt8.ofNat (p.n / 256)).toNat : Int) * 256 + (UInt8.ofNat p.n).toNat = (p.n : Int) := by rw [ofNat_lt, ofNat_lt]; omega
    exact ⟨p.n, _, by rw [hx], by omega, hf.trans h2, .inr ⟨h, rfl, h1, rfl⟩⟩
theorem got32 (hN : l.length = N) (hok : ∀ x ∈ l, x.Ok w) (hd : l.drop j = p :: l.drop (j + 1)) (hp : p.Ok w) (hk : p.kd = 3) (hr : Rdr wr ⟨r, 0, none⟩ (rem ct (l.drop j))) (hf : Fr (· = ⟨r, 0, none⟩) w5 wr) (hl : (rem ct (l.drop j)).length ≤ 1099511627776) :
    Calls Tryd.prog 15 #[.pointer (some ⟨r, 0, none⟩)] wr fun e w' => ∃ (x : Nat) (ev : Value), e = .returned (.tuple #[.int .u32 (x : Int), ev]) ∧ x < 4294967296 ∧ Got w5 ct r N j l (fun _ => x = p.n) ev w' := by
  have hb : p.bytes = be4 p.n := by unfold PutV.bytes; rw [if_neg (by omega), if_neg (by omega), if_pos hk]
  by_cases h : ct = true ∧ j + 1 = N
  · refine (U32_short _ _ _ hr (by rw [rem_short hN hd h, hb]; simp [be4])).mono ?_
    rintro e y ⟨rfl, hw⟩
    exact ⟨0, _, rfl, by omega, short_fr hf hw rfl h _⟩
  · rw [rem_long hN hok hd h, hb] at hr hl
    refine (U32_ok _ (UInt8.ofNat (p.n / 16777216)) (UInt8.ofNat (p.n / 65536)) (UInt8.ofNat (p.n / 256)) (UInt8.ofNat p.n) _ _ hr hl).mono ?_
    rintro e y ⟨rfl, h1, h2, _⟩
    have hn := hp.num.2.2
    have hx : ((((UInt8.ofNat (p.n / 16777216)).toNat : Int) * 256 + (UInt8.ofNat (p.n / 65536)).toNat) * 256 + (UInt8.ofNat (p.n / 256)).toNat) * 256 + (UInt8.ofNat p.n).toNat = (p.n : Int) := by simp only [ofNat_lt]; omega
    exact ⟨p.n, _, by rw [hx], by omega, hf.trans h2, .inr ⟨h, rfl, h1, rfl⟩⟩
theorem got4 (hN : l.length = N) (hok : ∀ x ∈ l, x.Ok w) (hd : l.drop j = p :: l.drop (j + 1)) (hp : p.Ok w) (hk : p.kd = 4) (hr : Rdr wr ⟨r, 0, none⟩ (rem ct (l.drop j))) (hf : Fr (· = ⟨r, 0, none⟩) w5 wr) (hl : (rem ct (l.drop j)).length ≤ 1099511627776) :
    Calls Tryd.prog 16 #[.pointer (some ⟨r, 0, none⟩), .int .i64 (p.m : Int)] wr fun e w' => ∃ (C : Option Addr) (n d : Nat) (ev : Value), e = .returned (.tuple #[.slice C n d, ev]) ∧ Got w5 ct r N j l (fun y => Rd y (.slice C n d) p.ps) ev w' := by
  have hb : p.bytes = p.ps := by unfold PutV.bytes; rw [if_neg (by omega), if_neg (by omega), if_neg (by omega)]
  obtain ⟨hm, h0, h1, _⟩ := hp.part hk
  by_cases h : ct = true ∧ j + 1 = N
  · refine (Bytes_short _ _ _ _ hr (by rw [rem_short hN hd h, hb, hm, List.length_dropLast]; omega)).mono ?_
    rintro e y ⟨rfl, hw⟩
    exact ⟨none, 0, 0, _, rfl, short_fr hf hw rfl h _⟩
  · rw [rem_long hN hok hd h, hb] at hr hl
    refine (Bytes_ok _ _ p.m _ hr (by rw [List.length_append, hm]; omega) hl).mono ?_
    rintro e y ⟨rfl, htk⟩
    have e1 : (p.ps ++ rem ct (l.drop (j + 1))).drop p.m = rem ct (l.drop (j + 1)) := by rw [hm, List.drop_left]
    have e2 : (p.ps ++ rem ct (l.drop (j + 1))).take p.m = p.ps := by rw [hm, List.take_left]
    have h3 := htk.rdr
    rw [e1] at h3
    have h4 := htk.part
    rw [e2] at h4
    refine ⟨_, _, _, _, rfl, hf.trans htk.fr, .inr ⟨h, rfl, h3, ?_⟩⟩
    have h5 := Rd.of_obj (c := p.m) h4 (by omega)
    rw [← hm] at h5
    exact h5
end
end Go.Proofs.YtmkfinpkidfohaaDoor
