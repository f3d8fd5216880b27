/-
  What is proved: the law GeneveRight answers true for any options, and leaves all older memory as it was.
  Conditions: errors.errorType holds the handle of the type error; the slice is of fewer than 2^63 options.
-/
import Derived.Test.YtnjohgfhagoppaaDoorGvSaid
import Derived.Test.YtnjohgfhagoppaaDoorGvShown
import Derived.Test.YtnjohgfhagoppaaDoorGvRefD
namespace Go.Proofs.YtnjohgfhagoppaaDoor
open Go.RowKit

/-- Options of an argument with their raw slices. -/
theorem raw_of {w : World} {A : Option Addr} : ∀ {l : List Op}, OpsAt w A l → ∃ lx : List Ox, lx.map Ox.p = l ∧ (∀ x ∈ lx, Rd w x.sl x.p.b ∧ x.k ≤ 9223372036854775807) ∧ ∀ k x, lx[k]? = some x → ∃ g o, A = some ⟨g, o, none⟩ ∧ ∀ j u, x.row[j]? = some u → w.cell? ⟨g, o + k * 3 + j, none⟩ = some u := by
  intro l h
  have key : ∀ n, ∃ lx : List Ox, lx.map Ox.p = l.take n ∧ (∀ x ∈ lx, Rd w x.sl x.p.b ∧ x.k ≤ 9223372036854775807) ∧ ∀ k x, lx[k]? = some x → ∃ g o, A = some ⟨g, o, none⟩ ∧ ∀ j u, x.row[j]? = some u → w.cell? ⟨g, o + k * 3 + j, none⟩ = some u := by
    intro n
    induction n with
    | zero => exact ⟨[], rfl, fun _ h => (by cases h), fun k x h => (by simp at h)⟩
    | succ n ih =>
      obtain ⟨lx, h1, h2, h3⟩ := ih
      by_cases hn : n < l.length
      · obtain ⟨y, hy⟩ : ∃ y, l[n]? = some y := ⟨l[n], List.getElem?_eq_getElem hn⟩
        obtain ⟨g, o, B, c, hA, ha, hc, hr⟩ := h n y hy
        have hlen : lx.length = n := by have := congrArg List.length h1; rw [List.length_map, List.length_take] at this; omega
        refine ⟨lx ++ [⟨y, B, c⟩], by rw [List.map_append, h1, List.take_add_one, hy]; rfl, fun x hx => ?_, fun k x hk => ?_⟩
        · rcases List.mem_append.1 hx with hx | hx
          · exact h2 x hx
          · rw [List.mem_singleton.1 hx]; exact ⟨hr, hc⟩
        · by_cases hkn : k < n
          · rw [List.getElem?_append_left (by omega)] at hk
            exact h3 k x hk
          · have hlt := (List.getElem?_eq_some_iff.1 hk).1
            rw [List.length_append, List.length_singleton] at hlt
            obtain rfl : k = n := by omega
            rw [List.getElem?_append_right (by omega), hlen, Nat.sub_self] at hk
            obtain rfl : (⟨y, B, c⟩ : Ox) = x := by simpa using hk
            refine ⟨g, o, hA, fun j u hu => ?_⟩
            match j, hu with
            | 0, hu => cases hu; exact ha.c0
            | 1, hu => cases hu; exact ha.c1
            | 2, hu => cases hu; exact ha.c2
            | j + 3, hu => simp [Ox.row] at hu
      · refine ⟨lx, by rw [h1, List.take_of_length_le (by omega), List.take_of_length_le (by omega)], h2, h3⟩
  obtain ⟨lx, h1, h2, h3⟩ := key l.length
  exact ⟨lx, by rw [h1, List.take_length], h2, h3⟩
theorem row_news {w : World} {g o : Nat} {lx : List Ox} (h : ∀ k x, lx[k]? = some x → ∀ j u, x.row[j]? = some u → w.cell? ⟨g, o + k * 3 + j, none⟩ = some u) : ∀ j u, (lx.flatMap Ox.row)[j]? = some u → w.cell? ((⟨g, o, none⟩ : Addr).add j) = some u := fun j u hu => by
  have hj := (List.getElem?_eq_some_iff.1 hu).1
  rw [ox_len] at hj
  have hk : j / 3 < lx.length := by omega
  have hx : lx[j / 3]? = some lx[j / 3] := List.getElem?_eq_getElem hk
  have e : (lx.flatMap Ox.row)[j / 3 * 3 + j % 3]? = lx[j / 3].row[j % 3]? := ox_get lx (j / 3) (j % 3) _ hx (by omega)
  rw [show j / 3 * 3 + j % 3 = j by omega] at e
  rw [Addr.add_lit, show o + j = o + j / 3 * 3 + j % 3 by omega]
  exact h (j / 3) _ hx (j % 3) u (by rw [← e]; exact hu)
theorem row_ones {lx : List Ox} : ∀ u ∈ lx.flatMap Ox.row, u.oneCell' = true := fun u hu => by
  obtain ⟨x, _, hx⟩ := List.mem_flatMap.1 hu
  have h1 := opRow_one x.p.c x.p.t x.B x.p.b.length x.k
  rw [Array.all_eq_true_iff_forall_mem] at h1
  exact h1 u (by simpa [opRow, Ox.row, Ox.sl] using hx)
/-- A row of one's own with older bytes. -/
structure Ro (n : Nat) (w W : World) (sv : Value) (lx : List Ox) : Prop where
  row : W.ownsRow n 50 3 sv lx.length (lx.flatMap Ox.row)
  rd : ∀ x ∈ lx, Rd w x.sl x.p.b ∧ x.k ≤ 9223372036854775807
  old : Below w.heap.size w W
  low : w.heap.size ≤ n
section
variable {n : Nat} {w W W' : World} {sv : Value} {lx ly : List Ox}
theorem Ro.ops (h : Ro n w W sv lx) : ∃ A c, sv = .slice A (lx.map Ox.p).length c ∧ OpsAt W A (lx.map Ox.p) := by
  obtain ⟨A, c, e, h1, h2, h3⟩ := gown_shape h.row
  refine ⟨A, c, by rw [e, List.length_map], fun k x hk => ?_⟩
  rw [List.getElem?_map] at hk
  obtain ⟨y, hy, rfl⟩ := Option.map_eq_some_iff.1 hk
  have hc : ∀ j u, j < 3 → y.row[j]? = some u → ∃ g, A = some ⟨g, 0, none⟩ ∧ n ≤ g ∧ W.cell? ⟨g, k * 3 + j, none⟩ = some u := fun j u hj hu => h3 (k * 3 + j) u (by rw [ox_get lx k j y hy hj]; exact hu)
  obtain ⟨g, hA, _, c0⟩ := hc 0 _ (by omega) rfl
  obtain ⟨g1, e1, _, c1⟩ := hc 1 _ (by omega) rfl
  obtain ⟨g2, e2, _, c2⟩ := hc 2 _ (by omega) rfl
  rw [hA] at e1 e2
  cases e1
  cases e2
  obtain ⟨r1, r2⟩ := h.rd y (List.mem_of_getElem? hy)
  exact ⟨g, 0, y.B, y.k, hA, ⟨by rw [Nat.zero_add]; exact c0, by rw [Nat.zero_add]; exact c1, by rw [Nat.zero_add]; exact c2⟩, r2, r1.below h.old⟩
theorem Ro.below (h : Ro n w W sv lx) (hb : Below W.heap.size W W') : Ro n w W' sv lx :=
  ⟨gowns_at h.row fun g hg => hb.block g (h.row.lt g hg).2, h.rd, below_to h.old hb h.old.size, h.low⟩
/-- More behind them. -/
theorem Ro.more (h : Ro n w W sv lx) (a : Addr) (c : Nat) (hn : ∀ j u, (ly.flatMap Ox.row)[j]? = some u → W.cell? (a.add j) = some u) (hr : ∀ x ∈ ly, Rd w x.sl x.p.b ∧ x.k ≤ 9223372036854775807) (hfew : lx.length + ly.length ≤ 1000000) (hs : n ≤ W.heap.size) (ty : TypeId) :
    ∃ sv' W', (Builtin.append_ #[39, 39] ty #[sv, .slice (some a) ly.length c]).run Tryd.prog W = .ok sv' W' ∧ Ro n w W' sv' (lx ++ ly) ∧ n ≤ W'.heap.size := by
  obtain ⟨i0, hi, hz0, hz1, hz2⟩ := info_parts gop_info
  obtain ⟨v', w1, hrun, ho1, hg, _, hat⟩ := run_append_own_at (P := Tryd.prog) W n 39 ty 50 i0 _ 3 32 Tryd.underlying39 hi hz0 hz1 hz2 rfl (by omega) sv lx.length _ h.row a ly.length c (ly.flatMap Ox.row) (ox_len ly) hn row_ones (by simp only [maxLen]; omega) (by omega) hs
  refine ⟨v', w1, hrun, ⟨?_, fun x hx => ?_, ?_, h.low⟩, Nat.le_trans hs hg.size⟩
  · rw [List.length_append, List.flatMap_append]
    exact ho1
  · rcases List.mem_append.1 hx with hx | hx
    · exact h.rd x hx
    · exact hr x hx
  · exact h.old.grown hg h.old.size (fun k hk => Nat.le_trans h.low (h.row.lt k hk).1)
/-- The elements of an argument behind them. -/
theorem Ro.moreA (h : Ro n w W sv lx) (A : Option Addr) (c : Nat) (hn : ∀ k x, ly[k]? = some x → ∃ g o, A = some ⟨g, o, none⟩ ∧ ∀ j u, x.row[j]? = some u → W.cell? ⟨g, o + k * 3 + j, none⟩ = some u) (hr : ∀ x ∈ ly, Rd w x.sl x.p.b ∧ x.k ≤ 9223372036854775807) (hfew : lx.length + ly.length ≤ 1000000) (hs : n ≤ W.heap.size) :
    ∃ sv' W', (Builtin.append_ #[39, 39] 39 #[sv, .slice A ly.length c]).run Tryd.prog W = .ok sv' W' ∧ Ro n w W' sv' (lx ++ ly) ∧ n ≤ W'.heap.size := by
  cases A with
  | none =>
    have hl0 : ly = [] := by
      cases ly with
      | nil => rfl
      | cons x l => obtain ⟨g, o, e, _⟩ := hn 0 x rfl; cases e
    subst hl0
    obtain ⟨i0, hi, hz0, hz1, hz2⟩ := info_parts gop_info
    have hrun : (Builtin.append_ #[39, 39] 39 #[sv, .slice none 0 c]).run Tryd.prog W = .ok sv W := by
      rcases h.row.2 with ⟨rfl, hn⟩ | ⟨g, cap, cur, rfl, _, _, hnc, _⟩
      · simp [Builtin.append_, run_underlying Tryd.underlying39, sizeOf, typeInfo, hi, Builtin.lenOf, Builtin.firstCells]
      · simp [Builtin.append_, run_underlying Tryd.underlying39, sizeOf, typeInfo, hi, Builtin.lenOf, Builtin.firstCells, hnc, storeCells]
    exact ⟨sv, W, hrun, by rw [List.append_nil]; exact h, hs⟩
  | some a =>
    cases ly with
    | nil => exact h.more a c (fun j u hu => by simp at hu) hr hfew hs _
    | cons x l =>
      obtain ⟨g, o, e, _⟩ := hn 0 x rfl
      cases e
      exact h.more ⟨g, o, none⟩ c (row_news fun k y hk => by
        obtain ⟨g', o', e', hc⟩ := hn k y hk
        cases e'
        exact hc) hr hfew hs _
end
def zOx : Ox := ⟨⟨0, 0, []⟩, none, 0⟩
/-- Right, and the number of what it tells. -/
theorem gright_code (A : Option Addr) (l : List Op) (c : Nat) (w : World) (h : OpsAt w A l) (hn : l.length ≤ 1000) :
    Calls Tryd.prog 24 #[.slice A l.length c] w fun e w' => ∃ v, e = .returned v ∧ (Hdl w' → Calls Tryd.prog 26 #[v] w' fun e w2 => e = .returned (.int .i64 (opRight l : Nat)) ∧ Below w'.heap.size w' w2) ∧ Below w.heap.size w w' := by
  refine (gright_any A l c w h hn).mono ?_
  rintro e w' (⟨h0, rfl, hb⟩ | ⟨_, b, rfl, hc, hb⟩)
  · refine ⟨_, rfl, fun _ => (code_nil w').mono ?_, hb⟩
    rintro e w2 ⟨rfl, rfl⟩
    exact ⟨by rw [h0]; rfl, Below.refl _ _⟩
  · exact ⟨_, rfl, fun hg => code_any _ _ _ w' hg hc, hb⟩
theorem opAll_append (l : List Op) : opAll (l ++ [⟨0, 0, []⟩]) = opAll l := by
  unfold opAll
  rw [List.all_append]
  simp [Op.good]
set_option maxRecDepth 100000 in
set_option maxHeartbeats 4000000 in
theorem gvRight_any (A1 : Option Addr) (c1 : Nat) (L : List Op) (w : World) (hg : Hdl w) (hO : OpsAt w A1 L) (_hfit : ∀ x ∈ L, x.Fit) (hLc : L.length ≤ c1) (hc1 : c1 ≤ 9223372036854775807) :
    Calls Tryd.prog 5 #[.slice A1 L.length c1] w fun e w' => e = .returned (.bool true) ∧ Below w.heap.size w w' := by
  obtain ⟨l, hl, hl2⟩ : ∃ l, l = L.take 100 ∧ l.length = min L.length 100 := ⟨_, rfl, by rw [List.length_take]; omega⟩
  have ho : OpsAt w A1 l := hl ▸ hO.take 100
  have HS : Hid (∀ W, _) := fun W => gsome_any A1 L.length c1 W hc1 hLc l.length hl2
  have hl3 : l.length ≤ 100 := by omega
  have HO := Lib.hid ho
  have HL := Lib.hid hl3
  have HG := Lib.hid hg
  clear hl hl2 ho hO hLc hc1 hg
  go_enter Tryd.func5, Tryd.ntmps5
  go_wp2_with fail
  refine (gvShown_any w).mono ?_
  rintro e w1 ⟨rfl, hb1⟩
  obtain ⟨lx, hlx, hrd, hcl⟩ := raw_of (HO.out.below hb1)
  have hAl : Below w1.heap.size w1 (w1.alloc (.cells #[] 50)) := (Below.refl _ _).alloc (Nat.le_refl _) _
  have hRo : Ro w1.heap.size w1 (w1.alloc (.cells #[] 50)) (.slice (some ⟨w1.heap.size, 0, none⟩) 0 0) [] :=
    ⟨⟨rfl, .inr ⟨w1.heap.size, 0, #[], rfl, Nat.le_refl _, heap_alloc_new w1 _, Nat.le_refl _, Nat.zero_le _, rfl, rfl⟩⟩, fun _ h => (by cases h), hAl, Nat.le_refl _⟩
  have hlen : lx.length = l.length := by rw [← hlx, List.length_map]
  obtain ⟨sv2, w2, hrun, hR2, hs2⟩ := hRo.moreA (ly := lx) A1 c1 (fun k x hk => by
    obtain ⟨g, o, e, hc⟩ := hcl k x hk
    exact ⟨g, o, e, fun j u hu => (hAl.cell (World.block_lt_of_cell? w1 _ (hc j u hu))).trans (hc j u hu)⟩) hrd (by simp; omega) hAl.size
  rw [List.nil_append] at hR2
  rw [hlen] at hrun
  have ER := Lib.hid hrun
  have HB1 := Lib.hid hb1
  have HR2 := Lib.hid hR2
  have HS2 := Lib.hid hs2
  have HLX := Lib.hid hlx
  clear hb1 hrd hcl hAl hRo hlen hrun hR2 hs2 hlx
  go_upto_region 2 with fail
  go_wp2_with fail
  refine (HS.out _).mono ?_
  rintro e w' ⟨rfl, rfl⟩
  clear HS
  go_upto_region 3 with (at_builtin; refine wpList_append_eq rfl (.tmp 10) (.tmp 12) 39 rfl _ _ rfl rfl _ _ ER.out ?_)
  clear ER
  obtain ⟨A2, c2, rfl, ho2⟩ := HR2.out.ops
  rw [HLX.out] at ho2 HR2 ⊢
  have HO2 := Lib.hid ho2
  clear ho2
  go_wp2_with fail
  go_loopw [4, 5, 6] (fun s4 s5 s6 wr => ∃ (k : Nat) (z : Int), s6 = .int .i64 (k : Int) ∧ k ≤ l.length ∧ s4 = .int .i64 z ∧ s5 = .bool (!opAll (l.take k)) ∧ (opAll (l.take k) = true → z = (opSize (l.take k) : Nat)) ∧ wr = w2) (fun _ _ s6 _ => l.length - (intOf s6).toNat)
  case atStart => exact ⟨0, 0, rfl, Nat.zero_le _, rfl, rfl, fun _ => rfl, rfl⟩
  case round =>
    obtain ⟨k, z, rfl, hk, rfl, rfl, hz, rfl⟩ := hrel
    have hl := HL.out
    by_cases hlt : k < l.length
    · have q1 : decide ((k : Int) < (l.length : Int)) = true := decide_eq_true (by omega)
      obtain ⟨x, hx⟩ : ∃ x, l[k]? = some x := ⟨l[k], List.getElem?_eq_getElem hlt⟩
      obtain ⟨g, o, B, bc, rfl, ha, hbc, hrb⟩ := HO2.out k x hx
      have hbl := hrb.cap_le
      obtain ⟨y0, y1, y2⟩ := ha
      cases hA : opAll (l.take k) with
      | false =>
        have hb : opAll (l.take (k + 1)) = false := by
          unfold opAll at hA ⊢
          rw [List.take_add_one, List.all_append, hA]
          rfl
        have HB := Lib.hid hb
        clear hx hb hA hz hrb
        go_wp2_with fail
        exact ⟨⟨k + 1, _, by simp, by omega, rfl, by rw [HB.out]; rfl, ⟨fun h => (by rw [HB.out] at h; cases h), trivial⟩⟩, by simp [intOf]; omega⟩
      | true =>
        have HZ := Lib.hid (hz hA)
        by_cases h4 : x.b.length % 4 = 0
        · have r1 : (Int.tmod (x.b.length : Int) 4) = 0 := by rw [Int.tmod_eq_emod_of_nonneg (by omega)]; omega
          by_cases h5 : x.b.length ≤ 124
          · have r2 : ¬ (124 : Int) < (x.b.length : Int) := by omega
            have HS := Lib.hid (opAll_take_succ hx hA h4 h5)
            have HW := Lib.hid (opSize_take_succ l k x hx)
            have h7 := opSize_take_le (l.take k) hA k
            rw [List.take_take, Nat.min_self] at h7
            have h8 : opSize (l.take k) ≤ 12800 := by rw [List.length_take] at h7; omega
            have hzz := HZ.out
            clear hx hA hz hrb h7
            generalize opSize (l.take k) = S at *
            subst hzz
            go_wp2_with fail
            exact ⟨⟨k + 1, _, by simp, by omega, rfl, by rw [HS.out]; rfl, ⟨fun _ => by rw [HW.out]; omega, trivial⟩⟩, by simp [intOf]; omega⟩
          · have r2 : (124 : Int) < (x.b.length : Int) := by omega
            have hb : opAll (l.take (k + 1)) = false := by
              rw [Bool.eq_false_iff]; intro h
              have := opAll_get h (k := k) (x := x) (by rw [List.getElem?_take_of_lt (by omega)]; exact hx)
              omega
            have HB := Lib.hid hb
            clear hx hb hA hz hrb
            go_wp2_with fail
            exact ⟨⟨k + 1, _, by simp, by omega, rfl, by rw [HB.out]; rfl, ⟨fun h => (by rw [HB.out] at h; cases h), trivial⟩⟩, by simp [intOf]; omega⟩
        · have r1 : ¬ (Int.tmod (x.b.length : Int) 4) = 0 := by rw [Int.tmod_eq_emod_of_nonneg (by omega)]; omega
          have hb : opAll (l.take (k + 1)) = false := by
            rw [Bool.eq_false_iff]; intro h
            have := opAll_get h (k := k) (x := x) (by rw [List.getElem?_take_of_lt (by omega)]; exact hx)
            omega
          have HB := Lib.hid hb
          clear hx hb hA hz hrb
          go_wp2_with fail
          exact ⟨⟨k + 1, _, by simp, by omega, rfl, by rw [HB.out]; rfl, ⟨fun h => (by rw [HB.out] at h; cases h), trivial⟩⟩, by simp [intOf]; omega⟩
    · have q1 : decide ((k : Int) < (l.length : Int)) = false := decide_eq_false (by omega)
      have hkl : k = l.length := by omega
      rw [hkl, List.take_length] at hz
      rw [hkl, List.take_length]
      have HZ := Lib.hid hz
      have HX := Lib.hid (gright_code A2 l c2 wr HO2.out (by omega))
      clear hz hk hlt hkl
      go_wp2_with fail
      refine HX.out.mono ?_
      rintro e w3 ⟨v3, rfl, hcd, hb3⟩
      have HB3 := Lib.hid (below_to HB1.out (below_to HR2.out.old hb3 HR2.out.old.size) HB1.out.size)
      have HR3 := Lib.hid (HR2.out.below hb3)
      have HC3 := Lib.hid (hcd (HG.out.below HB3.out))
      have HS3 : Hid (w1.heap.size ≤ w3.heap.size) := Nat.le_trans HS2.out hb3.size
      clear hcd hb3 HX HR2 HO2
      go_wp2_with fail
      refine HC3.out.mono ?_
      rintro e w4 ⟨rfl, hb4⟩
      have HB4 := Lib.hid (below_to HB3.out hb4 HB3.out.size)
      have hR4 := HR3.out.below hb4
      have hS4 : w1.heap.size ≤ w4.heap.size := Nat.le_trans HS3.out hb4.size
      have hAl : Below w4.heap.size w4 (w4.alloc (.cells #[.int .u16 0, .int .u8 0, .slice none 0 0] 50)) := (Below.refl _ _).alloc (Nat.le_refl _) _
      have hlx : lx.length = l.length := by rw [← HLX.out, List.length_map]
      obtain ⟨sv5, w5, hrun, hR5, hs5⟩ := (hR4.below hAl).more (ly := [zOx]) ⟨w4.heap.size, 0, none⟩ 1 (fun j u hu => by
        rw [Addr.add_lit, Nat.zero_add, cell_of_row _ _ _ _ _ _ (heap_alloc_new w4 _), ← Array.getElem?_toList]
        exact hu) (fun x hx => by
        rw [List.mem_singleton.1 hx]
        exact ⟨Rd.nil _, by decide⟩) (by simp; omega) (Nat.le_trans hS4 hAl.size) 39
      have ER := Lib.hid hrun
      have HR5 := Lib.hid hR5
      clear hb4 hR4 hS4 hAl hlx hrun hR5 hs5 HC3 HR3 HB3
      go_wp2_with (at_builtin; refine wpList_append_eq rfl (.tmp 52) (.tmp 54) 39 rfl _ _ rfl rfl _ _ ER.out ?_)
      obtain ⟨A5, c5, rfl, ho5⟩ := HR5.out.ops
      have hB5 := HR5.out.old
      have hm : (lx ++ [zOx]).map Ox.p = l ++ [⟨0, 0, []⟩] := by rw [List.map_append, HLX.out]; rfl
      rw [hm] at ho5 ⊢
      obtain ⟨l5, hl5⟩ : ∃ l5, l5 = l ++ [(⟨0, 0, []⟩ : Op)] := ⟨_, rfl⟩
      have h5a : opAll l5 = opAll l := by rw [hl5]; exact opAll_append l
      have h5s : opSize l5 = opSize l + 4 := by rw [hl5, opSize_append]; rfl
      have h5l : l5.length ≤ 1000 := by rw [hl5, List.length_append, List.length_singleton]; omega
      rw [← hl5] at ho5 ⊢
      have HX5 := Lib.hid (gright_code A5 l5 c5 w5 ho5 h5l)
      have HB5 := Lib.hid (below_to HB1.out hB5 HB1.out.size)
      have h5R : opRight l5 = if opAll l then (if opSize l + 4 ≤ 252 then 0 else 7) else 1 := by unfold opRight; rw [h5a, h5s]
      have hR : opRight l = if opAll l then (if opSize l ≤ 252 then 0 else 7) else 1 := rfl
      have H5R := Lib.hid (And.intro h5R hR)
      clear hB5 hm hl5 h5a h5s h5l ho5 ER HR5 HB4 h5R hR
      refine HX5.out.mono ?_
      rintro e w6 ⟨v6, rfl, hcd, hb6⟩
      have HB6 := Lib.hid (below_to HB5.out hb6 HB5.out.size)
      have HC6 := Lib.hid (hcd (HG.out.below HB6.out))
      clear hcd hb6 HX5 HB5
      go_wp2_with fail
      refine HC6.out.mono ?_
      rintro e w7 ⟨rfl, hb7⟩
      have HB7 := Lib.hid (below_to HB6.out hb7 HB6.out.size)
      clear hb7 HC6 HB6
      obtain ⟨h5R, hR⟩ := H5R.out
      cases hA : opAll l with
      | false =>
        rw [hA] at h5R hR
        have g1 : opRight l = 1 := hR
        have g2 : opRight l5 = 1 := h5R
        rw [g1, g2]
        clear h5R hR g1 g2 hA H5R
        go_wp2_with fail
        go_ret
        exact ⟨rfl, HB7.out⟩
      | true =>
        rw [hA, if_pos rfl] at h5R hR
        have hz := HZ.out hA
        subst hz
        by_cases c1 : opSize l ≤ 248
        · rw [if_pos (by omega)] at h5R hR
          rw [hR, h5R]
          have r1 : decide (((opSize l : Nat) : Int) ≤ 252) = true := decide_eq_true (by omega)
          have r2 : decide (((opSize l : Nat) : Int) ≤ 248) = true := decide_eq_true (by omega)
          clear h5R hR hA H5R
          go_wp2_with fail
          go_ret
          exact ⟨rfl, HB7.out⟩
        · by_cases c2 : opSize l ≤ 252
          · rw [if_pos c2] at hR
            rw [if_neg (by omega)] at h5R
            rw [hR, h5R]
            have r1 : decide (((opSize l : Nat) : Int) ≤ 252) = true := decide_eq_true (by omega)
            have r2 : decide (((opSize l : Nat) : Int) ≤ 248) = false := decide_eq_false (by omega)
            clear h5R hR hA H5R
            go_wp2_with fail
            go_ret
            exact ⟨rfl, HB7.out⟩
          · rw [if_neg c2] at hR
            rw [if_neg (by omega)] at h5R
            rw [hR, h5R]
            have r1 : decide (((opSize l : Nat) : Int) ≤ 252) = false := decide_eq_false (by omega)
            have r2 : decide (((opSize l : Nat) : Int) ≤ 248) = false := decide_eq_false (by omega)
            clear h5R hR hA H5R
            go_wp2_with fail
            go_ret
            exact ⟨rfl, HB7.out⟩
end Go.Proofs.YtnjohgfhagoppaaDoor
