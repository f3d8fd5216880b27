/-
  What is proved: geneve.readOptions by contract, with all of its outcomes.
  Conditions: the bytes are fewer than 2^39.
-/
import Derived.Test.YtnjohgfhagoppaaDoorGvRow
namespace Go.Proofs.YtnjohgfhagoppaaDoor
open Go.RowKit

/-- Where no options are: the number, and all but the reader is as it was. -/
def LNo (n : Int) (l : List ByteArray) (p : Addr) (w : World) (e : Ending) (w' : World) : Prop :=
  ∃ T u, e = .returned (.tuple #[.slice none 0 0, .iface T u]) ∧ Chain w' n l (.iface T u) ∧ Fr (· = p) w w'
theorem gopts_short (p : Addr) (bs : List UInt8) (I S : Int) (C : Bool) (w : World) (h : Rdr w p bs) (hS : (bs.length : Int) < S) :
    Calls Tryd.prog 47 #[.pointer (some p), .agg #[.int .u32 I, .int .i64 S, .bool C]] w (LNo 2 [octetsWord] p w) := by
  have HT : Hid (∀ o, _) := fun o => Bytes_short p bs S (w.alloc o) (h.below ((Below.refl _ _).alloc (Nat.le_refl _) o)) hS
  have HF : Hid (∀ o, Fr (· = p) w (w.alloc o)) := fun o => fr_alloc0 w o
  clear h hS
  unfold LNo
  go_enter Tryd.func47, Tryd.ntmps47
  go_wp2_with fail
  refine (HT.out _).mono ?_
  rintro e w' ⟨rfl, hw⟩
  obtain ⟨hc, hb⟩ := wrong_facts 2 octetsWord hw
  rw [World.size_alloc] at hc
  have HC := Lib.hid hc
  have HF2 := Lib.hid ((HF.out _).trans (Fr.of_below hb))
  clear hw hc hb HT HF
  go_wp2_with fail
  go_ret2
  exact ⟨_, _, rfl, HC.out, HF2.out⟩
/-- What the loop over options keeps. -/
structure LIn (w2 : World) (p2 : Addr) (g2 : Nat) (bs : List UInt8) (sv : Value) (l : List Ox) (r : List UInt8) (W : World) : Prop where
  rows : Oq w2.heap.size W sv l
  rdr : RdrG W p2 g2 r
  fr : Fr (· = p2) w2 W
  told : ops bs = (ops r).map fun m => l.map Ox.p ++ m
  few : 4 * l.length + r.length ≤ bs.length
theorem option_map_comp {f : List Op → List Op} {g : List Op → List Op} (o : Option (List Op)) : (o.map f).map g = o.map fun x => g (f x) := by cases o <;> rfl
/-- One round of it. -/
theorem gopt_round {w2 wr : World} {p2 : Addr} {g2 : Nat} {bs r : List UInt8} {sv : Value} {l : List Ox} (h : LIn w2 p2 g2 bs sv l r wr) (hp : p2.block < w2.heap.size) (hg : g2 < w2.heap.size) (hpg : p2.block ≠ g2) (h0 : 0 < r.length) (hL : bs.length ≤ 549755813888) :
    Calls Tryd.prog 58 #[.pointer (some p2)] wr fun e w' => (ops bs = none ∧ ONo p2 wr e w') ∨
      ∃ (x : Ox) (r' : List UInt8), e = .returned (.tuple #[.agg (opRow x.p.c x.p.t x.sl), .nilIface]) ∧ w'.ownsRow wr.heap.size 5 1 x.sl x.p.b.length (x.p.b.map B8) ∧ RdrG w' p2 g2 r' ∧ Fr (· = p2) wr w' ∧
        ops bs = (ops r').map (fun m => (l ++ [x]).map Ox.p ++ m) ∧ r'.length + 4 ≤ r.length := by
  have hpl : p2.block < wr.heap.size := Nat.lt_of_lt_of_le hp h.fr.size
  have hgl : g2 < wr.heap.size := Nat.lt_of_lt_of_le hg h.fr.size
  have hfew := h.few
  by_cases h4 : r.length < 4
  · refine (gopt_few p2 r wr h.rdr.rdr h4).mono fun e w' he => .inl ⟨?_, he⟩
    rw [h.told, ops_few h0 h4]
    rfl
  · obtain ⟨b0, b1, b2, b3, t, rfl⟩ := four (by omega : 4 ≤ r.length)
    simp only [List.length_cons] at hfew
    have l0 := b0.toNat_lt
    have l1 := b1.toNat_lt
    have l2 := b2.toNat_lt
    have l3 := b3.toNat_lt
    have a1 : IntKind.u16.bits = 16 := rfl
    have a2 : IntKind.u16.signed = false := rfl
    have a3 : IntKind.u8.bits = 8 := rfl
    have a4 : IntKind.u8.signed = false := rfl
    have hT : ∀ o, Calls Tryd.prog 53 #[.pointer (some p2)] (wr.alloc o) fun e w' => e = .returned (.tuple #[.int .u32 ((((b0.toNat : Int) * 256 + b1.toNat) * 256 + b2.toNat) * 256 + b3.toNat), .nilIface]) ∧ RdrG w' p2 g2 t ∧ Fr (· = p2) (wr.alloc o) w' := fun o => by
      refine (U32_at p2 g2 hpg b0 b1 b2 b3 t (wr.alloc o) (h.rdr.below ((Below.refl _ _).alloc (Nat.le_refl _) o)) (by simp; omega)).mono ?_
      rintro e w' ⟨rfl, hr, v, rfl⟩
      exact ⟨rfl, hr, Fr.of_set (p := (· = p2)) _ p2 v rfl⟩
    have hT' : ∀ o, Calls Tryd.prog 53 #[.pointer (some p2)] (wr.alloc o) fun e w' => e = .returned (.tuple #[.int .u32 ((((b0.toNat : Int) * 256 + b1.toNat) * 256 + b2.toNat) * 256 + b3.toNat), .nilIface]) ∧ Rdr w' p2 t ∧ Fr (· = p2) (wr.alloc o) w' := fun o => (hT o).mono fun e w' ⟨h1, h2, h3⟩ => ⟨h1, h2.rdr, h3⟩
    have hN : ((((b0.toNat : Int) * 256 + b1.toNat) * 256 + b2.toNat) * 256 + b3.toNat) = ((((b0.toNat * 256 + b1.toNat) * 256 + b2.toNat) * 256 + b3.toNat : Nat) : Int) := by omega
    have hand := gand_hi3 (((b0.toNat * 256 + b1.toNat) * 256 + b2.toNat) * 256 + b3.toNat) (by omega)
    rw [← hN] at hand
    have hu8 : IntKind.u8.wrap ((((b0.toNat : Int) * 256 + b1.toNat) * 256 + b2.toNat) * 256 + b3.toNat) = (b3.toNat : Int) := by simp [IntKind.wrap, a3, a4]; omega
    have htold := h.told
    rw [ops_cons] at htold
    by_cases hb : 32 ≤ b3.toNat
    · refine (gopt_bad p2 _ t wr hpl hT' (fun e => by have := hand.1 e; omega)).mono fun e w' he => .inl ⟨?_, he⟩
      rw [htold, if_pos (.inl hb)]
      rfl
    · have hx := hand.2 (by omega)
      by_cases hs : t.length < 4 * b3.toNat
      · refine (gopt_short p2 _ (b3.toNat : Int) t wr hpl hT' hx hu8 (by omega) (by omega) (by omega)).mono fun e w' he => .inl ⟨?_, he⟩
        rw [htold, if_pos (.inr hs)]
        rfl
      · rw [if_neg (by omega), option_map_comp] at htold
        refine (gopt_in p2 _ (b3.toNat : Int) t wr ((b0.toNat * 256 + b1.toNat : Nat) : Int) ((b2.toNat : Nat) : Int) (4 * b3.toNat) g2 hpl hgl hpg hT hx hu8 (by omega) (by omega) (by omega) (by omega) (by omega) (by simp [IntKind.wrap, a1, a2]; omega) (by simp [IntKind.wrap, a3, a4]; omega)).mono ?_
        rintro e w' ⟨g, rfl, hgw, hb, hr, hf⟩
        have hlt : (t.take (4 * b3.toNat)).length = 4 * b3.toNat := by rw [List.length_take]; omega
        refine .inr ⟨⟨⟨b0.toNat * 256 + b1.toNat, b2.toNat, t.take (4 * b3.toNat)⟩, some ⟨g, 0, none⟩, 4 * b3.toNat⟩, t.drop (4 * b3.toNat), ?_, ?_, hr, hf, ?_, ?_⟩
        · unfold Ox.sl
          simp only [hlt]
        · unfold Ox.sl
          simp only
          refine ⟨by simp, .inr ⟨g, 4 * b3.toNat, _, rfl, by omega, hb, by omega, by simp only [maxLen]; omega, by rw [List.size_toArray, List.length_map, hlt, Nat.mul_one], List.take_of_length_le (by rw [List.length_map, hlt, Nat.mul_one]; exact Nat.le_refl _)⟩⟩
        · rw [htold]
          congr 1
          funext m
          simp
        · rw [List.length_drop]
          simp only [List.length_cons]
          omega
theorem fr_grown {w w' : World} {row : Option Nat} (hg : w.grownBy w' row) : Fr (fun a => some a.block = row) w w' :=
  ⟨hg.os, hg.tape, hg.output, hg.size, fun a ha hn => World.cell?_of_block (hg.block a.block ha hn), fun a ha hn => World.frozen?_of_block (hg.block a.block ha hn), fun j hj hn => hg.block j hj (fun e => hn ⟨j, 0, none⟩ e rfl)⟩
/-- One option more. -/
theorem LIn.push {w2 wr w' W : World} {p2 : Addr} {g2 : Nat} {bs r r' : List UInt8} {sv : Value} {l : List Ox} {x : Ox} (h : LIn w2 p2 g2 bs sv l r wr) (hp : p2.block < w2.heap.size) (hg : g2 < w2.heap.size) (hL : bs.length ≤ 1000000)
    (hx : w'.ownsRow wr.heap.size 5 1 x.sl x.p.b.length (x.p.b.map B8)) (hr : RdrG w' p2 g2 r') (hf : Fr (· = p2) wr w') (ht : ops bs = (ops r').map fun m => (l ++ [x]).map Ox.p ++ m) (hl : r'.length + 4 ≤ r.length)
    (hb : Below w'.heap.size w' W) {X c : Nat} (hX : W.heap[X]? = some (.cells (opRow x.p.c x.p.t x.sl) 50 (0, 0))) (ty : TypeId) :
    ∃ sv' W', (Builtin.append_ #[39, 39] ty #[sv, .slice (some ⟨X, 0, none⟩) 1 c]).run Tryd.prog W = .ok sv' W' ∧ LIn w2 p2 g2 bs sv' (l ++ [x]) r' W' := by
  have hq : Oq w2.heap.size W sv l := (h.rows.fr hf (fun a ha => by subst ha; exact hp)).below hb
  have hx2 : W.ownsRow w2.heap.size 5 1 x.sl x.p.b.length (x.p.b.map B8) := gowns_base (gowns_at hx fun g hg => hb.block g (hx.lt g hg).2) h.fr.size
  have hfew := h.few
  have hsz : w2.heap.size ≤ W.heap.size := Nat.le_trans h.fr.size (Nat.le_trans hf.size hb.size)
  obtain ⟨sv', W', hrun, hq', hgr⟩ := hq.push hX hx2 (fun y hy g hyg e => by
    have h1 := ((h.rows.own y hy).lt g hyg).2
    have h2 := (hx.lt g e).1
    omega) (by omega) hsz ty
  have hF := fr_grown hgr
  have hlo : ∀ k, sv.ownBlock = some k → w2.heap.size ≤ k := fun k hk => (hq.row.lt k hk).1
  refine ⟨sv', W', hrun, hq', (hr.below hb).fr hF (fun e => ?_) (fun a ha e => ?_), ?_, ht, ?_⟩
  · have := hlo _ e.symm; omega
  · have ha' : some a.block = sv.ownBlock := ha
    have := hlo _ ha'.symm; omega
  · refine ((h.fr.trans hf).trans (Fr.of_below hb)).then hF fun a ha hlt => ?_
    have ha' : some a.block = sv.ownBlock := ha
    have := hlo _ ha'.symm
    omega
  · rw [List.length_append, List.length_singleton]; omega
def LPost (p : Addr) (bs : List UInt8) (n : Nat) (C : Bool) (w : World) (e : Ending) (w' : World) : Prop :=
  ((∀ l, ops (bs.take n) = some l → opCrit l ≠ C) ∧ LNo 3 [] p w e w') ∨
    ∃ sv lx, e = .returned (.tuple #[sv, .nilIface]) ∧ ops (bs.take n) = some (lx.map Ox.p) ∧ opCrit (lx.map Ox.p) = C ∧ Oq w.heap.size w' sv lx ∧ Rdr w' p (bs.drop n) ∧ Fr (· = p) w w'
set_option maxHeartbeats 4000000 in
theorem gopts_any (p : Addr) (bs : List UInt8) (n : Nat) (I : Int) (C : Bool) (w : World) (h : Rdr w p bs) (hn : n ≤ bs.length) (hn2 : n ≤ 1000) (hL : bs.length ≤ 549755813888) :
    Calls Tryd.prog 47 #[.pointer (some p), .agg #[.int .u32 I, .int .i64 (n : Int), .bool C]] w (LPost p bs n C w) := by
  have HT : Hid (∀ o, _) := fun o => Bytes_ok p bs n (w.alloc o) (h.below ((Below.refl _ _).alloc (Nat.le_refl _) o)) hn (by omega)
  have HF : Hid (∀ o, Fr (· = p) w (w.alloc o)) := fun o => fr_alloc0 w o
  have HP := Lib.hid h.at_
  have hlen : (bs.take n).length = n := by rw [List.length_take]; omega
  have HN := Lib.hid (And.intro hlen hn2)
  clear h hn hL hlen
  go_enter Tryd.func47, Tryd.ntmps47
  go_wp2_with fail
  refine (HT.out _).mono ?_
  rintro e w1 ⟨rfl, ht⟩
  have HK := Lib.hid ht
  have hhead : w1.heap[w.heap.size]? = some (headObj I n C) := (ht.fr.block _ (by simp) (fun a ha => by subst ha; exact Nat.ne_of_lt HP.out)).trans (heap_alloc_new w _)
  have HH := Lib.hid hhead
  have HF1 := Lib.hid ((HF.out _).trans ht.fr)
  have hd := Rd.of_obj (c := n) ht.part (by rw [HN.out.1]; exact Nat.le_refl _)
  rw [HN.out.1, World.size_alloc] at hd
  have HD := Lib.hid hd
  clear ht HT HF hhead hd
  go_wp2_with fail
  have hrd := Read_any _ _ w1 HD.out (by rw [HN.out.1]; have := HN.out.2; omega)
  have hg2 := RdrG.of_Read w1 (bs.take n)
  have hB : Below w1.heap.size w1 ((w1.alloc (bytesObj (bs.take n))).alloc (.cells #[.slice (some ⟨w1.heap.size, 0, none⟩) (bs.take n).length (bs.take n).length] 97)) := below_al (below_al (Below.refl _ _) _) _
  have hsz : ((w1.alloc (bytesObj (bs.take n))).alloc (.cells #[.slice (some ⟨w1.heap.size, 0, none⟩) (bs.take n).length (bs.take n).length] 97)).heap.size = w1.heap.size + 2 := by simp
  refine hrd.mono ?_
  rintro e w2 ⟨rfl, hw⟩
  rw [hw] at hg2 hB hsz
  have HG2 := Lib.hid hg2
  have HB2 := Lib.hid hB
  have HS2 := Lib.hid hsz
  clear hrd hw hg2 hB hsz HD
  go_wp2_with fail
  generalize hbs2 : bs.take n = bs2 at *
  have HBS := Lib.hid hbs2
  clear hbs2
  obtain ⟨p2, hp2⟩ : ∃ p2 : Addr, p2 = ⟨w1.heap.size + 1, 0, none⟩ := ⟨_, rfl⟩
  have HPG : Hid (p2.block < w2.heap.size ∧ w1.heap.size < w2.heap.size ∧ p2.block ≠ w1.heap.size ∧ w1.heap.size ≤ p2.block ∧ p.block < w1.heap.size ∧ w.heap.size < w1.heap.size) := by
    have h1 := HS2.out
    have h2 := HP.out
    have h3 := HF1.out.size
    have h4 := (Array.getElem?_eq_some_iff.1 HH.out).1
    rw [hp2]
    exact ⟨by simp; omega, by omega, by simp, by simp, by omega, h4⟩
  rw [← hp2] at HG2 ⊢
  clear hp2
  obtain ⟨g2, hg2⟩ : ∃ g2, g2 = w1.heap.size := ⟨_, rfl⟩
  rw [← hg2] at HG2 HPG
  have HG2E := Lib.hid hg2
  clear hg2
  have KB : Hid (∀ {l r s W}, LIn w2 p2 g2 bs2 s l r W → Below w1.heap.size w1 W) := fun {l r s W} h => below_to HB2.out (h.fr.below (B := w1.heap.size) HB2.out.size (fun x hx => by subst hx; rw [← HG2E.out]; exact HPG.out.2.2.2.1)) (Nat.le_refl _)
  go_loopw [8, 10, 11] (fun s8 _ _ wr => ∃ (l : List Ox) (r : List UInt8), LIn w2 p2 g2 bs2 s8 l r wr) (fun _ _ _ W => lenAt W p2)
  case atStart => exact ⟨[], bs2, Oq.nil _ _, HG2.out, Fr.refl _ _, by simp, by simp⟩
  case round =>
    obtain ⟨l, r, hI⟩ := hrel
    have HI := Lib.hid hI
    have HX := Lib.hid (left_any p2 r wr hI.rdr.rdr)
    clear hI
    by_cases h0 : 0 < r.length
    · have q1 : decide ((0 : Int) < (r.length : Int)) = true := decide_eq_true (by omega)
      go_wp2_with fail
      refine HX.out.mono ?_
      rintro e w' ⟨rfl, rfl⟩
      have HRd := Lib.hid (gopt_round HI.out HPG.out.1 HPG.out.2.1 HPG.out.2.2.1 h0 (by have := HN.out; omega))
      clear HX
      go_wp2_with fail
      refine HRd.out.mono ?_
      rintro e w3 (⟨hnone, rfl, hf⟩ | ⟨x, r', rfl, hx, hr, hf, ht, hl⟩)
      · have HNo := Lib.hid hnone
        have HF3 := Lib.hid (HF1.out.trans (Fr.of_below (below_to (KB.out HI.out) (hf.below (B := w1.heap.size) (KB.out HI.out).size (fun a ha => by subst ha; rw [← HG2E.out]; exact HPG.out.2.2.2.1)) (Nat.le_refl _))))
        clear hnone hf HRd HI
        unfold op0 opRow
        go_wp2_with fail
        go_ret2
        exact .inl ⟨fun l h => (by rw [HBS.out, HNo.out] at h; cases h), _, _, rfl, rfl, HF3.out.alloc _⟩
      · have HXO := Lib.hid hx
        have HR3 := Lib.hid hr
        have HFr := Lib.hid hf
        have HTo := Lib.hid ht
        have HLe := Lib.hid hl
        have HXl := Lib.hid (gown_rd hx)
        clear hx hr hf ht hl HRd
        unfold opRow
        have hB1 : Below w3.heap.size w3 ((w3.alloc (.cells (opRow x.p.c x.p.t x.sl) 50)).alloc (.cells (opRow x.p.c x.p.t x.sl) 50)) := below_al (below_al (Below.refl _ _) _) _
        obtain ⟨sv', W', hrun, hI'⟩ := HI.out.push HPG.out.1 HPG.out.2.1 (by have := HN.out; omega) HXO.out HR3.out HFr.out HTo.out HLe.out hB1 (heap_alloc_new _ _) (c := 1) 39
        have HI2 := Lib.hid hI'
        rw [World.size_alloc] at hrun
        have ER := Lib.hid hrun
        unfold opRow at ER
        unfold Ox.sl at ER ⊢
        clear hrun hI' hB1 HXO
        go_wp2_with (at_builtin; refine wpList_append_eq rfl (.tmp 35) (.tmp 37) 39 rfl _ _ rfl rfl _ _ ER.out ?_)
        exact ⟨⟨_, _, HI2.out⟩, by rw [HI2.out.rdr.len, HI.out.rdr.len]; have := HLe.out; omega⟩
    · have q1 : decide ((0 : Int) < (r.length : Int)) = false := decide_eq_false (by omega)
      have hr0 : r = [] := List.eq_nil_of_length_eq_zero (by omega)
      subst hr0
      go_wp2_with fail
      refine HX.out.mono ?_
      rintro e w' ⟨rfl, rfl⟩
      obtain ⟨A, c, rfl, _, _, hops⟩ := HI.out.rows.ops
      have htold := HI.out.told
      rw [ops_nil] at htold
      have HTD : Hid (ops bs2 = some (l.map Ox.p)) := by show _ = _; rw [htold]; simp
      have hh : wr.heap[w.heap.size]? = some (headObj I n C) := ((KB.out HI.out).block _ (by rw [← HG2E.out]; exact HPG.out.2.2.2.2.2)).trans HH.out
      have HH2 := Lib.hid hh
      have hlf := HI.out.few
      have hnn := HN.out
      have hfits := (ops_good _ _ (Nat.le_refl _) _ HTD.out).2.1
      have HCt : Hid (∀ W, Below wr.heap.size wr W → _) := fun W hW => gcontains_any A (l.map Ox.p) c W (hops.below hW) hfits (by rw [List.length_map]; omega)
      have KS : Hid (∀ W, Below wr.heap.size wr W → W.cell? ⟨w.heap.size, 2, none⟩ = some (.bool C)) := fun W hW => by
        have h := (hW.block _ (Array.getElem?_eq_some_iff.1 hh).1).trans hh
        rw [cell_of_row W _ 2 _ _ _ h]; rfl
      have k0 := KS.out wr (Below.refl _ _)
      clear htold hlf hnn hfits hops hh HX
      generalize hlm : l.map Ox.p = lm at *
      have HLM := Lib.hid hlm
      clear hlm
      go_upto_region 11 with fail
      go_region_held_law (fun W' => W'.cell? ⟨w.heap.size, 2, none⟩ = some (.bool C))
        (first | assumption | exact KS.out _ (below_drew wr) | exact KS.out _ H1.out)
        (first
          | (go_at_call 41; (with_reducible refine (HCt.out _ (below_drew wr)).mono ?_); rintro e w3 ⟨rfl, h3⟩; (have H1 := Lib.hid ((below_drew wr).trans h3)); clear h3))
      all_goals
        have HB9 := Lib.hid (below_to (KB.out HI.out) H1.out (KB.out HI.out).size)
        clear KS HCt KB
        by_cases hc : opCrit lm = C
        · have HCC := Lib.hid hc
          have HR9 := Lib.hid (HK.out.rdr.below HB9.out)
          have HQ9 := Lib.hid ((HI.out.rows.below H1.out).mono (m := w.heap.size) (by have h1 := HPG.out.2.2.2.2.2; have h2 := HPG.out.2.1; omega))
          have HF9 := Lib.hid (HF1.out.trans (Fr.of_below HB9.out))
          have q2 : (!(opCrit lm == C)) = false := by rw [hc]; simp
          clear hc
          go_wp2_with fail
          all_goals first | exact absurd ‹(!(opCrit lm == C)) = true› (by rw [q2]; decide) | skip
          go_ret2
          exact .inr ⟨_, l, rfl, by rw [HBS.out, HTD.out, HLM.out], by rw [HLM.out]; exact HCC.out, HQ9.out, HR9.out, HF9.out⟩
        · have HCC := Lib.hid hc
          have HF9 := Lib.hid (HF1.out.trans (Fr.of_below HB9.out))
          have q2 : (!(opCrit lm == C)) = true := by rw [beq_eq_false_iff_ne.2 hc]; rfl
          clear hc
          go_wp2_with fail
          all_goals first | exact absurd ‹(!(opCrit lm == C)) = false› (by rw [q2]; decide) | skip
          go_ret2
          exact .inl ⟨fun m h => (by rw [HBS.out, HTD.out] at h; cases h; exact HCC.out), _, _, rfl, rfl, HF9.out⟩
end Go.Proofs.YtnjohgfhagoppaaDoor
