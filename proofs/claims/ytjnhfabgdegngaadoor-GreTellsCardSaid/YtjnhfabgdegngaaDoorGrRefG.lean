/-
  What is proved: the document's Decap of layer 13 by contract, where the flags are right.
  Conditions: the bytes are fewer than 2^39.
-/
import Derived.Test.YtjnhfabgdegngaaDoorGrRefD
namespace Go.Proofs.YtjnhfabgdegngaaDoor
open Go.RowKit

theorem RD.bad {bs : List UInt8} {w w' : World} {n : Nat} {i : Bool} (h1 : grCode bs = n) (h2 : n ≠ 0) (h3 : grInner bs = i) (hb : Below w.heap.size w w') : RD bs w (.returned (.tuple #[.agg gr0.row, .string ⟨#[]⟩, .int .i64 (n : Nat), .bool i])) w' := by
  unfold RD
  rw [h1, if_neg h2, if_neg h2, if_neg h2, h3]
  exact ⟨rfl, hb⟩
theorem RD.ok {bs : List UInt8} {w w' : World} (h1 : grCode bs = 0) (hb : Below w.heap.size w w') : RD bs w (.returned (.tuple #[.agg (grHdr bs).row, .string (txt (grLeft bs)), .int .i64 0, .bool false])) w' := by
  unfold RD
  rw [h1, if_pos rfl, if_pos rfl, if_pos rfl]
  exact ⟨rfl, hb⟩
theorem text_four (b0 b1 b2 b3 : UInt8) (r : List UInt8) (d m : Nat) (x0 x1 x2 x3 : UInt8) (y : List UInt8) (hm : m = 4 + d) (h : r.drop d = x0 :: x1 :: x2 :: x3 :: y) : (txt (b0 :: b1 :: b2 :: b3 :: r)).extract m (m + 4) = txt [x0, x1, x2, x3] := by
  subst hm
  rw [xtxt_mid, show 4 + d + 4 - (4 + d) = 4 by omega, show (b0 :: b1 :: b2 :: b3 :: r).drop (4 + d) = r.drop d by rw [Nat.add_comm]; rfl, h]
  rfl
theorem text_left (b0 b1 b2 b3 : UInt8) (r : List UInt8) (d m n : Nat) (hm : m = 4 + d) (hn : n = r.length + 4) : (txt (b0 :: b1 :: b2 :: b3 :: r)).extract m n = txt (r.drop d) := by
  subst hm
  subst hn
  rw [xtxt_mid, show (b0 :: b1 :: b2 :: b3 :: r).drop (4 + d) = r.drop d by rw [Nat.add_comm]; rfl]
  congr 1
  rw [List.take_of_length_le]
  rw [List.length_drop]
  omega
/-- The state behind the flags. -/
structure RG (w : World) (G : Nat) (h : GH) (W : World) : Prop where
  s : RDS w W
  b : RBox W G h
  lt : w.heap.size < G
section
variable {w W W' : World} {G : Nat} {h : GH}
theorem RG.below (r : RG w G h W) (hb : Below W.heap.size W W') : RG w G h W' := ⟨r.s.below hb, r.b.below hb, r.lt⟩
theorem RG.set (r : RG w G h W) (i : Nat) (v : Value) (h' : GH) (hh : h.row.setIfInBounds i v = h'.row) : RG w G h' (W.setCell ⟨G, i, none⟩ v) := by
  have hf : Fr (· = (⟨G, i, none⟩ : Addr)) W (W.setCell ⟨G, i, none⟩ v) := Fr.of_set W _ v rfl
  refine ⟨⟨(gset_other W G i w.heap.size v (by have := r.lt; omega)).trans r.s.z, below_to r.s.old (hf.below (B := w.heap.size) r.s.old.size (fun x hx => by subst hx; have := r.lt; simp only; omega)) (Nat.le_refl _)⟩, ⟨?_⟩, r.lt⟩
  have := gset_heap W G i v _ _ _ r.b.o
  rw [hh] at this
  exact this
end
set_option maxRecDepth 100000 in
set_option maxHeartbeats 4000000 in
theorem rgrdec_in (b0 b1 b2 b3 : UInt8) (r : List UInt8) (w : World) (hc : gCode4 b0 b1 b2 b3 = 0) (hL : (b0 :: b1 :: b2 :: b3 :: r).length ≤ 549755813888) : Calls Tryd.prog 9 #[.string (txt (b0 :: b1 :: b2 :: b3 :: r))] w (RD (b0 :: b1 :: b2 :: b3 :: r) w) := by
  have H0 := Lib.hid (RDS.new w)
  have HSZ := Lib.hid (txt_size (b0 :: b1 :: b2 :: b3 :: r))
  have hsz := HSZ.out
  have HI0 := Lib.hid (fun W => xtxt_index (b0 :: b1 :: b2 :: b3 :: r) 0 b0 rfl 0 rfl W)
  have i0 := HI0.out
  have i1 := fun W => xtxt_index (b0 :: b1 :: b2 :: b3 :: r) 1 b1 rfl 1 rfl W
  have i2 := fun W => xtxt_index (b0 :: b1 :: b2 :: b3 :: r) 2 b2 rfl 2 rfl W
  have i3 := fun W => xtxt_index (b0 :: b1 :: b2 :: b3 :: r) 3 b3 rfl 3 rfl W
  have HRD : Hid (∀ e w', RD (b0 :: b1 :: b2 :: b3 :: r) w e w' ↔ RD (b0 :: b1 :: b2 :: b3 :: r) w e w') := fun e w' => Iff.rfl
  have hoth : gOther b0 b1 = false ∧ (b2.toNat = 101 ∧ b3.toNat = 88) := by
    unfold gCode4 at hc
    by_cases h1 : gOther b0 b1 = true
    · rw [if_pos h1] at hc; cases hc
    · rw [if_neg h1] at hc
      by_cases h2 : b2.toNat = 101 ∧ b3.toNat = 88
      · exact ⟨by simpa using h1, h2⟩
      · rw [if_neg h2] at hc; cases hc
  have hno := hoth.1
  unfold gOther at hno
  simp only [Bool.not_eq_false', Bool.and_eq_true, beq_iff_eq] at hno
  have q1 : ((b0.toNat : Int) % 16 != 0) = false := by rw [bne_eq_false_iff_eq]; omega
  have q2 : ((b0.toNat : Int) / 64 % 2 != 0) = false := by rw [bne_eq_false_iff_eq]; omega
  have q3 : ((b1.toNat : Int) != 0) = false := by rw [bne_eq_false_iff_eq]; omega
  have q4 : ((b2.toNat : Int) != 101) = false := by rw [bne_eq_false_iff_eq]; omega
  have q5 : ((b3.toNat : Int) != 88) = false := by rw [bne_eq_false_iff_eq]; omega
  have l0 := b0.toNat_lt
  obtain ⟨s, hs⟩ : ∃ s, gS b0 = s := ⟨_, rfl⟩
  obtain ⟨k, hk⟩ : ∃ k, gK b0 = k := ⟨_, rfl⟩
  obtain ⟨q, hq⟩ : ∃ q, gQ b0 = q := ⟨_, rfl⟩
  have t1 : decide ((128 : Int) ≤ (b0.toNat : Int)) = s := by
    rw [← hs]
    unfold gS
    rw [Bool.eq_iff_iff]
    simp only [decide_eq_true_eq, beq_iff_eq]
    omega
  have t2 : ((b0.toNat : Int) / 32 % 2 == 1) = k := by
    rw [← hk]
    unfold gK
    rw [Bool.eq_iff_iff]
    simp only [beq_iff_eq]
    omega
  have t3 : ((b0.toNat : Int) / 16 % 2 == 1) = q := by
    rw [← hq]
    unfold gQ
    rw [Bool.eq_iff_iff]
    simp only [beq_iff_eq]
    omega
  have HSKQ := Lib.hid (And.intro hs (And.intro hk hq))
  have HC0 := Lib.hid hc
  have HLL := Lib.hid hL
  have HLR : Hid ((b0 :: b1 :: b2 :: b3 :: r).length = r.length + 4) := by show _ = _; simp
  rw [HLR.out] at hsz
  generalize hT : txt (b0 :: b1 :: b2 :: b3 :: r) = T at *
  have HT := Lib.hid hT
  clear hno hoth hs hk hq hc hL hT
  have hb0 : (0 : Int) ≤ (b0.toNat : Int) := by omega
  have hb1 : (b0.toNat : Int) < 256 := by omega
  generalize (b0.toNat : Int) = B0 at *
  clear l0
  go_enter Tryd.func9, Tryd.ntmps9
  go_upto_region 1 with fail
  generalize hW : w.alloc (.cells gr0.row 35) = W at H0
  have hW2 : w.alloc (.cells #[.bool false, .bool false, .int .u32 0, .bool false, .int .u32 0] 35) = W := hW
  rw [hW2]
  clear hW hW2
  go_upto_region 7 with fail
  clear q1 q2 q3 q4 q5 i1 i2 i3
  go_cut [6] (fun s6 wx => ∃ G, s6 = .pointer (some ⟨G, 0, none⟩) ∧ RG w G ⟨s, k, 0, q, 0⟩ wx)
  case first =>
    have HK : Hid (RG w W.heap.size ⟨s, k, 0, q, 0⟩ (W.drew.alloc (.cells #[.bool s, .bool k, .int .u32 0, .bool q, .int .u32 0] 35))) :=
      ⟨H0.out.below ((below_drew W).trans (((Below.refl _ _).alloc (Nat.le_refl _) _).mono (by simp))), ⟨heap_alloc_new W.drew _⟩, H0.out.lt⟩
    have d1 : IntKind.u8.wrap (Int.tdiv B0 32) = B0 / 32 := by rw [IntKind.wrap_u8', Int.tdiv_eq_ediv_of_nonneg hb0]; omega
    have d2 : Int.tmod (B0 / 32) 2 = B0 / 32 % 2 := Int.tmod_eq_emod_of_nonneg (by omega)
    have d3 : IntKind.u8.wrap (Int.tdiv B0 16) = B0 / 16 := by rw [IntKind.wrap_u8', Int.tdiv_eq_ediv_of_nonneg hb0]; omega
    have d4 : Int.tmod (B0 / 16) 2 = B0 / 16 % 2 := Int.tmod_eq_emod_of_nonneg (by omega)
    clear H0
    refine wp_region_any (by kernel_rfl) ?_
    change wpAny _ _ _ _ _ _ _ (World.drew _)
    refine wpAny_take (i := 0) (oi := ⟨some 40, _, _, _, _, _⟩) (v := .string T) rfl (by kernel_rfl) (by kernel_rfl) (by kernel_rfl) (fun _ _ _ h => h) (Or.inl ⟨by rfl, ?_⟩) ?_
    · intro W
      go_simp
    try simp only [Act.put, List.setIfInBounds_toArray, List.set_cons_zero, List.set_cons_succ]
    refine wpAny_take (i := 1) (oi := ⟨some 41, _, _, _, _, _⟩) (v := .int .u8 B0) rfl (by kernel_rfl) (by kernel_rfl) (by kernel_rfl) (fun _ _ _ h => h) (Or.inl ⟨by rfl, ?_⟩) ?_
    · intro W
      go_simp
    try simp only [Act.put, List.setIfInBounds_toArray, List.set_cons_zero, List.set_cons_succ]
    refine wpAny_take (i := 2) (oi := ⟨some 42, _, _, _, _, _⟩) (v := .bool s) rfl (by kernel_rfl) (by kernel_rfl) (by kernel_rfl) (fun _ _ _ h => h) (Or.inl ⟨by rfl, ?_⟩) ?_
    · intro W
      go_simp
    try simp only [Act.put, List.setIfInBounds_toArray, List.set_cons_zero, List.set_cons_succ]
    refine wpAny_take (i := 3) (oi := ⟨some 43, _, _, _, _, _⟩) (v := .string T) rfl (by kernel_rfl) (by kernel_rfl) (by kernel_rfl) (fun _ _ _ h => h) (Or.inl ⟨by rfl, ?_⟩) ?_
    · intro W
      go_simp
    try simp only [Act.put, List.setIfInBounds_toArray, List.set_cons_zero, List.set_cons_succ]
    refine wpAny_take (i := 4) (oi := ⟨some 44, _, _, _, _, _⟩) (v := .int .u8 B0) rfl (by kernel_rfl) (by kernel_rfl) (by kernel_rfl) (fun _ _ _ h => h) (Or.inl ⟨by rfl, ?_⟩) ?_
    · intro W
      go_simp
    try simp only [Act.put, List.setIfInBounds_toArray, List.set_cons_zero, List.set_cons_succ]
    refine wpAny_take (i := 5) (oi := ⟨some 45, _, _, _, _, _⟩) (v := .int .u8 (B0 / 32)) rfl (by kernel_rfl) (by kernel_rfl) (by kernel_rfl) (fun _ _ _ h => h) (Or.inl ⟨by rfl, ?_⟩) ?_
    · intro W
      go_simp
    try simp only [Act.put, List.setIfInBounds_toArray, List.set_cons_zero, List.set_cons_succ]
    refine wpAny_take (i := 6) (oi := ⟨some 46, _, _, _, _, _⟩) (v := .int .u8 (B0 / 32 % 2)) rfl (by kernel_rfl) (by kernel_rfl) (by kernel_rfl) (fun _ _ _ h => h) (Or.inl ⟨by rfl, ?_⟩) ?_
    · intro W
      go_simp
    try simp only [Act.put, List.setIfInBounds_toArray, List.set_cons_zero, List.set_cons_succ]
    refine wpAny_take (i := 7) (oi := ⟨some 47, _, _, _, _, _⟩) (v := .bool k) rfl (by kernel_rfl) (by kernel_rfl) (by kernel_rfl) (fun _ _ _ h => h) (Or.inl ⟨by rfl, ?_⟩) ?_
    · intro W
      go_simp
    try simp only [Act.put, List.setIfInBounds_toArray, List.set_cons_zero, List.set_cons_succ]
    refine wpAny_take (i := 8) (oi := ⟨some 48, _, _, _, _, _⟩) (v := .string T) rfl (by kernel_rfl) (by kernel_rfl) (by kernel_rfl) (fun _ _ _ h => h) (Or.inl ⟨by rfl, ?_⟩) ?_
    · intro W
      go_simp
    try simp only [Act.put, List.setIfInBounds_toArray, List.set_cons_zero, List.set_cons_succ]
    refine wpAny_take (i := 9) (oi := ⟨some 49, _, _, _, _, _⟩) (v := .int .u8 B0) rfl (by kernel_rfl) (by kernel_rfl) (by kernel_rfl) (fun _ _ _ h => h) (Or.inl ⟨by rfl, ?_⟩) ?_
    · intro W
      go_simp
    try simp only [Act.put, List.setIfInBounds_toArray, List.set_cons_zero, List.set_cons_succ]
    refine wpAny_take (i := 10) (oi := ⟨some 50, _, _, _, _, _⟩) (v := .int .u8 (B0 / 16)) rfl (by kernel_rfl) (by kernel_rfl) (by kernel_rfl) (fun _ _ _ h => h) (Or.inl ⟨by rfl, ?_⟩) ?_
    · intro W
      go_simp
    try simp only [Act.put, List.setIfInBounds_toArray, List.set_cons_zero, List.set_cons_succ]
    refine wpAny_take (i := 11) (oi := ⟨some 51, _, _, _, _, _⟩) (v := .int .u8 (B0 / 16 % 2)) rfl (by kernel_rfl) (by kernel_rfl) (by kernel_rfl) (fun _ _ _ h => h) (Or.inl ⟨by rfl, ?_⟩) ?_
    · intro W
      go_simp
    try simp only [Act.put, List.setIfInBounds_toArray, List.set_cons_zero, List.set_cons_succ]
    refine wpAny_take (i := 12) (oi := ⟨some 52, _, _, _, _, _⟩) (v := .bool q) rfl (by kernel_rfl) (by kernel_rfl) (by kernel_rfl) (fun _ _ _ h => h) (Or.inl ⟨by rfl, ?_⟩) ?_
    · intro W
      go_simp
    try simp only [Act.put, List.setIfInBounds_toArray, List.set_cons_zero, List.set_cons_succ]
    refine wpAny_take (i := 13) (oi := ⟨some 53, _, _, _, _, _⟩) (v := .agg #[.bool s, .bool k, .int .u32 0, .bool q, .int .u32 0]) rfl (by kernel_rfl) (by kernel_rfl) (by kernel_rfl) (fun _ _ _ h => h) (Or.inl ⟨by rfl, ?_⟩) ?_
    · intro W
      go_simp
    try simp only [Act.put, List.setIfInBounds_toArray, List.set_cons_zero, List.set_cons_succ]
    refine wpAny_ready (rs := [14]) (by kernel_rfl) (by simp) ?_
    refine AllReady.cons (o := ⟨some 6, _, _, _, _, _⟩) rfl (fun K hK => ?_) AllReady.nil
    go_simp
    refine hK _ _ ?_
    clear hK K
    try simp only [Act.put, List.setIfInBounds_toArray, List.set_cons_zero, List.set_cons_succ]
    refine wpAny_ready (rs := [15]) (by kernel_rfl) (by simp) ?_
    refine AllReady.cons (o := ⟨none, _, _, _, _, _⟩) rfl (fun K hK => ?_) AllReady.nil
    go_simp
    refine hK _ _ ?_
    clear hK K
    try simp only [Act.put, List.setIfInBounds_toArray, List.set_cons_zero, List.set_cons_succ]
    refine wpAny_done (by kernel_rfl) ?_ _
    go_wp2_with fail
    go_meet
    exact ⟨_, rfl, HK.out⟩
  obtain ⟨G, rfl, hg⟩ := hcut
  have H1 := Lib.hid hg
  clear hg t1 t2 t3 i0 HI0 hb0 hb1 H0
  have hnn : (0 : Int) ≤ (r.length : Int) := by omega
  have hLr : r.length ≤ 549755813888 := by have h1 := HLL.out; rw [HLR.out] at h1; omega
  obtain ⟨a1, ha1⟩ : ∃ n : Nat, n = 4 + (if s then 4 else 0) := ⟨_, rfl⟩
  obtain ⟨a2, ha2⟩ : ∃ n : Nat, n = a1 + (if k then 4 else 0) := ⟨_, rfl⟩
  obtain ⟨a3, ha3⟩ : ∃ n : Nat, n = a2 + (if q then 4 else 0) := ⟨_, rfl⟩
  have HA := Lib.hid (And.intro ha1 (And.intro ha2 ha3))
  have hb1 : a1 ≤ 8 := by rw [ha1]; split <;> omega
  have hb2 : a2 ≤ a1 + 4 := by rw [ha2]; split <;> omega
  have hb3 : a3 ≤ a2 + 4 := by rw [ha3]; split <;> omega
  have hge : 4 ≤ a1 ∧ a1 ≤ a2 ∧ a2 ≤ a3 := ⟨by rw [ha1]; omega, by rw [ha2]; omega, by rw [ha3]; omega⟩
  have HBd := Lib.hid (And.intro hb1 (And.intro hb2 (And.intro hb3 hge)))
  clear ha1 ha2 ha3 hb1 hb2 hb3 hge
  obtain ⟨b, hb, c0⟩ : ∃ b, Hid (s = b) ∧ wc.cell? ⟨G, 0, none⟩ = some (.bool b) := ⟨s, rfl, H1.out.b.c0⟩
  go_upto_if 55 with fail
  go_cut [7] (fun s7 wx => s7 = .int .i64 (a1 : Int) ∧ wx = wc)
  case first =>
    cases b
    · have e : Hid ((a1 : Int) = 4) := by rw [HA.out.1, hb.out]; rfl
      clear hb
      go_wp2_with fail
      go_meet
      exact ⟨by rw [e.out], rfl⟩
    · have e : Hid ((a1 : Int) = 8) := by rw [HA.out.1, hb.out]; rfl
      clear hb
      go_wp2_with fail
      go_meet
      exact ⟨by rw [e.out], rfl⟩
  obtain ⟨rfl, rfl⟩ := hcut
  clear hb c0
  obtain ⟨b, hb, c0⟩ : ∃ b, Hid (k = b) ∧ wc.cell? ⟨G, 1, none⟩ = some (.bool b) := ⟨k, rfl, H1.out.b.c1⟩
  have hb1 := HBd.out.1
  go_upto_if 59 with fail
  go_cut [7] (fun s7 wx => s7 = .int .i64 (a2 : Int) ∧ wx = wc)
  case first =>
    cases b
    · have e := Lib.hid (show (a2 : Int) = (a1 : Int) by rw [HA.out.2.1, hb.out]; simp)
      clear hb
      go_wp2_with fail
      go_meet
      exact ⟨by rw [e.out], rfl⟩
    · have e := Lib.hid (show (a2 : Int) = (a1 : Int) + 4 by rw [HA.out.2.1, hb.out]; simp)
      clear hb
      go_wp2_with fail
      go_meet
      exact ⟨by rw [e.out], rfl⟩
  obtain ⟨rfl, rfl⟩ := hcut
  clear hb c0
  obtain ⟨b, hb, c0⟩ : ∃ b, Hid (q = b) ∧ wc.cell? ⟨G, 3, none⟩ = some (.bool b) := ⟨q, rfl, H1.out.b.c3⟩
  have hb2 : a2 ≤ 12 := by have h := HBd.out.2.1; omega
  go_upto_if 63 with fail
  go_cut [7] (fun s7 wx => s7 = .int .i64 (a3 : Int) ∧ wx = wc)
  case first =>
    cases b
    · have e := Lib.hid (show (a3 : Int) = (a2 : Int) by rw [HA.out.2.2, hb.out]; simp)
      clear hb
      go_wp2_with fail
      go_meet
      exact ⟨by rw [e.out], rfl⟩
    · have e := Lib.hid (show (a3 : Int) = (a2 : Int) + 4 by rw [HA.out.2.2, hb.out]; simp)
      clear hb
      go_wp2_with fail
      go_meet
      exact ⟨by rw [e.out], rfl⟩
  obtain ⟨rfl, rfl⟩ := hcut
  clear hb c0
  have hb3 : a3 ≤ 16 := by have h := HBd.out.2.2.1; omega
  have HE : Hid (grEnds (b0 :: b1 :: b2 :: b3 :: r) = decide (r.length + 4 < a3)) := by
    show gends (gS b0) (gK b0) (gQ b0) r = _
    rw [gends_len, HSKQ.out.1, HSKQ.out.2.1, HSKQ.out.2.2, HA.out.2.2, HA.out.2.1, HA.out.1, Bool.eq_iff_iff, decide_eq_true_iff, decide_eq_true_iff]
    omega
  have HF0 : Hid (grFirst (b0 :: b1 :: b2 :: b3 :: r) = 0) := HC0.out
  by_cases hlt : r.length + 4 < a3
  · have he := HE.out
    rw [decide_eq_true hlt] at he
    have h1 : grCode (b0 :: b1 :: b2 :: b3 :: r) = 2 := by unfold grCode; rw [if_neg (by rw [HF0.out]; decide), if_pos he]
    have h3 : grInner (b0 :: b1 :: b2 :: b3 :: r) = true := by unfold grInner; rw [HF0.out, he]; rfl
    have HFin : Hid (∀ w', Below w.heap.size w w' → RD (b0 :: b1 :: b2 :: b3 :: r) w (.returned (.tuple #[.agg gr0.row, .string ⟨#[]⟩, .int .i64 2, .bool true])) w') := fun w' hb => RD.bad (n := 2) h1 (by decide) h3 hb
    have hZ := Lib.hid H1.out.s.z
    clear he h1 h3
    go_wp2_with (refine wpList_store_row rfl 35 (.tmp 2) (.tmp 70) rfl w.heap.size gr0.row rfl rfl 35 _ hZ.out rgrSize rfl (GH.one _) ?_)
    (try simp only [Exit.inBlock, Exit.then])
    refine bodyPost_ret (results_cell_tmp3_row rfl _ _ w.heap.size _ gr0.row (0, 0) _ rfl (setRow_heap _ _ _ _ _ _ hZ.out) Tryd.underlying35 rfl rgrSize) rfl ?_
    exact HFin.out _ (H1.out.s.row _)
  · have he := HE.out
    rw [decide_eq_false hlt] at he
    have HEF := Lib.hid he
    have HIF : Hid (grInner (b0 :: b1 :: b2 :: b3 :: r) = false) := by unfold grInner; rw [he, Bool.and_false]; rfl
    have HHs : Hid ((grHdr (b0 :: b1 :: b2 :: b3 :: r)).s = s) := HSKQ.out.1
    have HSm : Hid (∀ W, _) := fun W => refSum_any (b0 :: b1 :: b2 :: b3 :: r) (by have := HLL.out; omega) W
    rw [HT.out] at HSm
    obtain ⟨b, hb, c0⟩ : ∃ b, Hid (s = b) ∧ wc.cell? ⟨G, 0, none⟩ = some (.bool b) := ⟨s, rfl, H1.out.b.c0⟩
    clear he
    by_cases hbad : s = true ∧ ck (b0 :: b1 :: b2 :: b3 :: r) ≠ 0
    · have h1 : grCode (b0 :: b1 :: b2 :: b3 :: r) = 4 := by unfold grCode; rw [if_neg (by rw [HF0.out]; decide), if_neg (by rw [HEF.out]; decide), if_pos ⟨by rw [HHs.out]; exact hbad.1, hbad.2⟩]
      have HFin : Hid (∀ w', Below w.heap.size w w' → RD (b0 :: b1 :: b2 :: b3 :: r) w (.returned (.tuple #[.agg gr0.row, .string ⟨#[]⟩, .int .i64 4, .bool false])) w') := fun w' hb => RD.bad (n := 4) h1 (by decide) HIF.out hb
      obtain rfl : b = true := by rw [← hb.out]; exact hbad.1
      obtain ⟨C, hC⟩ : ∃ C : Int, ((ck (b0 :: b1 :: b2 :: b3 :: r) : Nat) : Int) = C := ⟨_, rfl⟩
      have hC0 : ¬ C = 0 := by have := hbad.2; omega
      rw [hC] at HSm
      clear h1 hb hC hbad
      go_wp2_with fail
      refine (HSm.out _).mono ?_
      rintro e w5 ⟨rfl, m, rfl⟩
      have H5 := Lib.hid (H1.out.below (show Below wc.heap.size wc (wc.drewN m) from ⟨rfl, rfl, rfl, Nat.le_refl _, fun _ _ => rfl⟩))
      have hZ := Lib.hid H5.out.s.z
      clear c0
      generalize wc.drewN m = W5 at *
      go_wp2_with (refine wpList_store_row rfl 35 (.tmp 2) (.tmp 76) rfl w.heap.size gr0.row rfl rfl 35 _ hZ.out rgrSize rfl (GH.one _) ?_)
      (try simp only [Exit.inBlock, Exit.then])
      refine bodyPost_ret (results_cell_tmp3_row rfl _ _ w.heap.size _ gr0.row (0, 0) _ rfl (setRow_heap _ _ _ _ _ _ hZ.out) Tryd.underlying35 rfl rgrSize) rfl ?_
      exact HFin.out _ (H5.out.s.row _)
    · have HCode : Hid (grCode (b0 :: b1 :: b2 :: b3 :: r) = frameWrong (grLeft (b0 :: b1 :: b2 :: b3 :: r)).length) := grcode_of HF0.out HEF.out (by rw [HHs.out]; exact hbad)
      have HBadS : Hid (s = true → ck (b0 :: b1 :: b2 :: b3 :: r) = 0) := fun h => Classical.byContradiction fun k => hbad ⟨h, k⟩
      clear hbad
      go_upto_if 72 with fail
      go_cut [8] (fun s8 wx => s8 = .int .i64 (a1 : Int) ∧ Below wc.heap.size wc wx)
      case first =>
        cases b
        · have e : Hid ((a1 : Int) = 4) := by rw [HA.out.1, hb.out]; rfl
          clear hb
          go_wp2_with fail
          go_meet
          exact ⟨by rw [e.out], Below.refl _ _⟩
        · have e : Hid ((a1 : Int) = 8) := by rw [HA.out.1, hb.out]; rfl
          rw [HBadS.out hb.out] at HSm
          clear hb
          go_wp2_with fail
          refine (HSm.out _).mono ?_
          rintro e w5 ⟨rfl, m, rfl⟩
          have HB5 : Hid (Below wc.heap.size wc (wc.drewN m)) := ⟨rfl, rfl, rfl, Nat.le_refl _, fun _ _ => rfl⟩
          go_wp2_with fail
          go_meet
          exact ⟨by rw [e.out], HB5.out⟩
      obtain ⟨rfl, hbw⟩ := hcut
      have H2 := Lib.hid (H1.out.below hbw)
      clear hbw hb c0 H1 HSm
      obtain ⟨r1, hr1⟩ : ∃ r1, gskip s r = r1 := ⟨_, rfl⟩
      obtain ⟨r2, hr2⟩ : ∃ r2, gskip k r1 = r2 := ⟨_, rfl⟩
      have hfw : gfew k r1 = false ∧ gfew q r2 = false := by
        have h := HEF.out
        have h' : gends (gS b0) (gK b0) (gQ b0) r = false := h
        rw [HSKQ.out.1, HSKQ.out.2.1, HSKQ.out.2.2] at h'
        unfold gends at h'
        rw [hr1, hr2] at h'
        simp only [Bool.or_eq_false_iff] at h'
        exact ⟨h'.1.2, h'.2⟩
      have HR := Lib.hid (And.intro hr1 (And.intro hr2 hfw))
      have HHd : Hid (grHdr (b0 :: b1 :: b2 :: b3 :: r) = ⟨s, k, gnum k r1, q, gnum q r2⟩) := by
        show gfields (gS b0) (gK b0) (gQ b0) r = _
        rw [HSKQ.out.1, HSKQ.out.2.1, HSKQ.out.2.2]
        unfold gfields
        rw [hr1, hr2]
      have HLe : Hid (grLeft (b0 :: b1 :: b2 :: b3 :: r) = r.drop (a3 - 4)) := by
        show gleft (gS b0) (gK b0) (gQ b0) r = _
        rw [HSKQ.out.1, HSKQ.out.2.1, HSKQ.out.2.2, gleft_drop, HA.out.2.2, HA.out.2.1, HA.out.1]
        congr 1
        omega
      have HNum : Hid (∀ x0 x1 x2 x3 : UInt8, ∀ W, _) := fun x0 x1 x2 x3 W => rnumber4_any x0 x1 x2 x3 W
      clear hr1 hr2 hfw
      obtain ⟨b, hb, c0⟩ : ∃ b, Hid (k = b) ∧ wc.cell? ⟨G, 1, none⟩ = some (.bool b) := ⟨k, rfl, H2.out.b.c1⟩
      go_upto_if 78 with fail
      go_cut [8] (fun s8 wx => s8 = .int .i64 (a2 : Int) ∧ RG w G ⟨s, k, gnum k r1, q, 0⟩ wx)
      case first =>
        cases b
        · have e := Lib.hid (show (a2 : Int) = (a1 : Int) by rw [HA.out.2.1, hb.out]; simp)
          have e2 : Hid (gnum k r1 = 0) := by rw [hb.out]; rfl
          clear hb
          go_wp2_with fail
          go_meet
          exact ⟨by rw [e.out], by rw [e2.out]; exact H2.out⟩
        · have e := Lib.hid (show (a2 : Int) = (a1 : Int) + 4 by rw [HA.out.2.1, hb.out]; simp)
          have h4 : 4 ≤ r1.length := by
            have h := HR.out.2.2.1
            rw [hb.out] at h
            unfold gfew at h
            rw [Bool.true_and, decide_eq_false_iff_not] at h
            omega
          obtain ⟨x0, x1, x2, x3, y, hy⟩ := grfour h4
          have hdr : r.drop (if s then 4 else 0) = x0 :: x1 :: x2 :: x3 :: y := by rw [← gskip_drop, HR.out.1, hy]
          have htx := text_four b0 b1 b2 b3 r (if s then 4 else 0) a1 x0 x1 x2 x3 y HA.out.1 hdr
          rw [HT.out] at htx
          have hnum : gnum k r1 = ((x0.toNat * 256 + x1.toNat) * 256 + x2.toNat) * 256 + x3.toNat := by rw [hb.out, hy]; rfl
          have HN := Lib.hid (HNum.out x0 x1 x2 x3)
          rw [← hnum] at HN
          have H3 := Lib.hid (H2.out.set 2 (.int .u32 (gnum k r1 : Nat)) ⟨s, k, gnum k r1, q, 0⟩ rfl)
          have hlen : a1 + 4 ≤ r.length + 4 := by
            have := congrArg List.length hdr
            rw [List.length_drop] at this
            simp only [List.length_cons] at this
            have := HA.out.1
            omega
          have c2 := H2.out.b.c2
          have f2 := H2.out.b.free 2
          generalize txt [x0, x1, x2, x3] = TX at *
          generalize gnum k r1 = key at *
          clear hb h4 hy hdr hnum
          go_wp2_with fail
          refine (HN.out _).mono ?_
          rintro e w5 ⟨rfl, rfl⟩
          go_wp2_with fail
          go_meet
          exact ⟨by rw [e.out], H3.out⟩
      obtain ⟨rfl, h3⟩ := hcut
      have H3 := Lib.hid h3
      clear h3 hb c0 H2
      generalize hkey : gnum k r1 = key at *
      clear hkey
      obtain ⟨b, hb, c0⟩ : ∃ b, Hid (q = b) ∧ wc.cell? ⟨G, 3, none⟩ = some (.bool b) := ⟨q, rfl, H3.out.b.c3⟩
      go_upto_if 89 with fail
      go_cut [] (fun wx => RG w G ⟨s, k, key, q, gnum q r2⟩ wx)
      case first =>
        cases b
        · have e2 : Hid (gnum q r2 = 0) := by rw [hb.out]; rfl
          clear hb
          go_wp2_with fail
          go_meet
          rw [e2.out]
          exact H3.out
        · have h4 : 4 ≤ r2.length := by
            have h := HR.out.2.2.2
            rw [hb.out] at h
            unfold gfew at h
            rw [Bool.true_and, decide_eq_false_iff_not] at h
            omega
          obtain ⟨x0, x1, x2, x3, y, hy⟩ := grfour h4
          have hdr : r.drop ((if s then 4 else 0) + (if k then 4 else 0)) = x0 :: x1 :: x2 :: x3 :: y := by rw [← List.drop_drop, ← gskip_drop, ← gskip_drop, HR.out.1, HR.out.2.1, hy]
          have htx := text_four b0 b1 b2 b3 r ((if s then 4 else 0) + (if k then 4 else 0)) a2 x0 x1 x2 x3 y (by rw [HA.out.2.1, HA.out.1]; omega) hdr
          rw [HT.out] at htx
          have hnum : gnum q r2 = ((x0.toNat * 256 + x1.toNat) * 256 + x2.toNat) * 256 + x3.toNat := by rw [hb.out, hy]; rfl
          have HN := Lib.hid (HNum.out x0 x1 x2 x3)
          rw [← hnum] at HN
          have H4 := Lib.hid (H3.out.set 4 (.int .u32 (gnum q r2 : Nat)) ⟨s, k, key, q, gnum q r2⟩ rfl)
          have hlen : a2 + 4 ≤ r.length + 4 := by
            have := congrArg List.length hdr
            rw [List.length_drop] at this
            simp only [List.length_cons] at this
            have := HA.out.1
            have := HA.out.2.1
            omega
          have c2 := H3.out.b.c4
          have f2 := H3.out.b.free 4
          generalize txt [x0, x1, x2, x3] = TX at *
          generalize gnum q r2 = seq at *
          clear hb h4 hy hdr hnum
          go_wp2_with fail
          refine (HN.out _).mono ?_
          rintro e w5 ⟨rfl, rfl⟩
          go_wp2_with fail
          go_meet
          exact H4.out
      have H4 := Lib.hid hcut
      clear hcut hb c0 H3 HNum
      generalize gnum q r2 = seq at *
      have hll : (r.drop (a3 - 4)).length = r.length + 4 - a3 := by rw [List.length_drop]; have := HBd.out.2.2.2.1; have := HBd.out.2.2.2.2; omega
      obtain ⟨L, hL⟩ : ∃ L, L = r.length + 4 - a3 := ⟨_, rfl⟩
      have hLi : (r.length : Int) + 4 - (a3 : Int) = (L : Int) := by omega
      have HZ : Hid (∀ W, _) := fun W => rsize_any L W
      have HCd : Hid (grCode (b0 :: b1 :: b2 :: b3 :: r) = frameWrong L) := by rw [HCode.out, HLe.out, hll, ← hL]; rfl
      have htl := text_left b0 b1 b2 b3 r (a3 - 4) a3 (r.length + 4) (by have := HBd.out.2.2.2.1; have := HBd.out.2.2.2.2; omega) rfl
      rw [HT.out, ← HLe.out] at htl
      clear hll hL
      by_cases hw : frameWrong L = 0
      · rw [hw] at HZ HCd
        have HFin : Hid (∀ w', Below w.heap.size w w' → RD (b0 :: b1 :: b2 :: b3 :: r) w (.returned (.tuple #[.agg (GH.row ⟨s, k, key, q, seq⟩), .string (txt (grLeft (b0 :: b1 :: b2 :: b3 :: r))), .int .i64 0, .bool false])) w') := fun w' hb => by
          have h := RD.ok HCd.out hb
          rw [HHd.out] at h
          exact h
        clear hw
        go_wp2_with fail
        refine (HZ.out _).mono ?_
        rintro e w' ⟨rfl, rfl⟩
        go_upto_region 30 with fail
        generalize txt (grLeft (b0 :: b1 :: b2 :: b3 :: r)) = TF at *
        have KS : Hid (∀ W', RG w G ⟨s, k, key, q, seq⟩ W' → W'.cell? ⟨G, 0, none⟩ = some (.bool s) ∧ W'.cell? ⟨G, 1, none⟩ = some (.bool k) ∧ W'.cell? ⟨G, 2, none⟩ = some (.int .u32 (key : Int)) ∧ W'.cell? ⟨G, 3, none⟩ = some (.bool q) ∧ W'.cell? ⟨G, 4, none⟩ = some (.int .u32 (seq : Int))) := fun W' h => ⟨h.b.c0, h.b.c1, h.b.c2, h.b.c3, h.b.c4⟩
        have H5 : Hid (RG w G ⟨s, k, key, q, seq⟩ wc.drew) := H4.out.below (below_drew wc)
        have KZ : Hid (∀ W', RG w G ⟨s, k, key, q, seq⟩ W' → ∀ cs, (W'.setRow w.heap.size cs).cell? ⟨G, 0, none⟩ = some (.bool s) ∧ (W'.setRow w.heap.size cs).cell? ⟨G, 1, none⟩ = some (.bool k) ∧ (W'.setRow w.heap.size cs).cell? ⟨G, 2, none⟩ = some (.int .u32 (key : Int)) ∧ (W'.setRow w.heap.size cs).cell? ⟨G, 3, none⟩ = some (.bool q) ∧ (W'.setRow w.heap.size cs).cell? ⟨G, 4, none⟩ = some (.int .u32 (seq : Int))) := fun W' h cs => by
          have hb : RBox (W'.setRow w.heap.size cs) G ⟨s, k, key, q, seq⟩ := ⟨(setRow_other W' w.heap.size cs (by have := h.lt; omega)).trans h.b.o⟩
          exact ⟨hb.c0, hb.c1, hb.c2, hb.c3, hb.c4⟩
        have hZ := Lib.hid H5.out.s.z
        refine wp_region_held_drew (S := (fun W' : World => W'.cell? ⟨G, 0, none⟩ = some (.bool s) ∧ W'.cell? ⟨G, 1, none⟩ = some (.bool k) ∧ W'.cell? ⟨G, 2, none⟩ = some (.int .u32 (key : Int)) ∧ W'.cell? ⟨G, 3, none⟩ = some (.bool q) ∧ W'.cell? ⟨G, 4, none⟩ = some (.int .u32 (seq : Int)))) (by kernel_rfl) (KS.out _ H5.out) (fun hHeld => ?_)
        generalize wc.drew = D at H5 hHeld hZ ⊢
        clear H4
        refine wpAnyH_take (i := 0) (oi := ⟨some 106, _, _, _, _, _⟩) (v := .agg #[.bool s, .bool k, .int .u32 (key : Int), .bool q, .int .u32 (seq : Int)]) rfl (by kernel_rfl) (by kernel_rfl) (by kernel_rfl) (fun _ _ _ h => h) (Or.inl ⟨by rfl, ?_⟩) (by assumption) ?_
        · intro W hSw
          try dsimp only at hSw
          go_simp
        try simp only [Act.put, List.setIfInBounds_toArray, List.set_cons_zero, List.set_cons_succ]
        refine wpAnyH_take (i := 1) (oi := ⟨some 107, _, _, _, _, _⟩) (v := .string T) rfl (by kernel_rfl) (by kernel_rfl) (by kernel_rfl) (fun _ _ _ h => h) (Or.inl ⟨by rfl, ?_⟩) (by assumption) ?_
        · intro W hSw
          try dsimp only at hSw
          go_simp
        try simp only [Act.put, List.setIfInBounds_toArray, List.set_cons_zero, List.set_cons_succ]
        refine wpAnyH_take (i := 2) (oi := ⟨some 108, _, _, _, _, _⟩) (v := .int .i64 (a3 : Int)) rfl (by kernel_rfl) (by kernel_rfl) (by kernel_rfl) (fun _ _ _ h => h) (Or.inl ⟨by rfl, ?_⟩) (by assumption) ?_
        · intro W hSw
          try dsimp only at hSw
          go_simp
        try simp only [Act.put, List.setIfInBounds_toArray, List.set_cons_zero, List.set_cons_succ]
        refine wpAnyH_take (i := 3) (oi := ⟨some 109, _, _, _, _, _⟩) (v := .string TF) rfl (by kernel_rfl) (by kernel_rfl) (by kernel_rfl) (fun _ _ _ h => h) (Or.inl ⟨by rfl, ?_⟩) (by assumption) ?_
        · intro W hSw
          try dsimp only at hSw
          go_simp
        try simp only [Act.put, List.setIfInBounds_toArray, List.set_cons_zero, List.set_cons_succ]
        refine wpAnyH_ready (rs := [4]) (by kernel_rfl) (by simp) ?_
        refine AllReadyH.cons rfl (fun K hK => ?_) AllReadyH.nil
        have hk := Lib.hid hK
        clear hK
        refine step_store_row rfl 35 (.tmp 2) (.tmp 106) rfl w.heap.size (GH.row ⟨s, k, key, q, seq⟩) rfl rfl _ _ hZ.out rgrSize rfl (GH.one _) rfl ?_
        refine hk.out.out _ _ (KZ.out _ H5.out _) (fun hHeld => ?_)
        clear hk K
        try simp only [Act.put]
        refine wpAnyH_take (i := 5) (oi := ⟨some 3, _, _, _, _, _⟩) (v := .string TF) rfl (by kernel_rfl) (by kernel_rfl) (by kernel_rfl) (fun _ _ _ h => h) (Or.inl ⟨by rfl, ?_⟩) (by assumption) ?_
        · intro W hSw
          go_simp
        try simp only [Act.put, List.setIfInBounds_toArray, List.set_cons_zero, List.set_cons_succ]
        refine wpAnyH_take (i := 6) (oi := ⟨some 4, _, _, _, _, _⟩) (v := .int .i64 0) rfl (by kernel_rfl) (by kernel_rfl) (by kernel_rfl) (fun _ _ _ h => h) (Or.inl ⟨by rfl, ?_⟩) (by assumption) ?_
        · intro W hSw
          go_simp
        try simp only [Act.put, List.setIfInBounds_toArray, List.set_cons_zero, List.set_cons_succ]
        refine wpAnyH_take (i := 7) (oi := ⟨some 5, _, _, _, _, _⟩) (v := .bool false) rfl (by kernel_rfl) (by kernel_rfl) (by kernel_rfl) (fun _ _ _ h => h) (Or.inl ⟨by rfl, ?_⟩) (by assumption) ?_
        · intro W hSw
          go_simp
        try simp only [Act.put, List.setIfInBounds_toArray, List.set_cons_zero, List.set_cons_succ]
        refine wpAnyH_done (by kernel_rfl) ?_ _
        go_wp2_with fail
        (try simp only [Exit.inBlock, Exit.then])
        refine bodyPost_ret (results_cell_tmp3_row rfl _ _ w.heap.size _ (GH.row ⟨s, k, key, q, seq⟩) (0, 0) _ rfl (setRow_heap _ _ _ _ _ _ hZ.out) Tryd.underlying35 rfl rgrSize) rfl ?_
        exact HFin.out _ (H5.out.s.row _)
      · have HFin : Hid (∀ w', Below w.heap.size w w' → RD (b0 :: b1 :: b2 :: b3 :: r) w (.returned (.tuple #[.agg gr0.row, .string ⟨#[]⟩, .int .i64 (frameWrong L : Nat), .bool false])) w') := fun w' hb => RD.bad HCd.out hw HIF.out hb
        have h3' : ¬ ((frameWrong L : Nat) : Int) = 0 := by omega
        have hZ := Lib.hid H4.out.s.z
        clear hw HCd htl
        generalize ((frameWrong L : Nat) : Int) = f at *
        go_wp2_with fail
        refine (HZ.out _).mono ?_
        rintro e w' ⟨rfl, rfl⟩
        go_wp2_with (refine wpList_store_row rfl 35 (.tmp 2) (.tmp 104) rfl w.heap.size gr0.row rfl rfl 35 _ hZ.out rgrSize rfl (GH.one _) ?_)
        (try simp only [Exit.inBlock, Exit.then])
        refine bodyPost_ret (results_cell_tmp3_row rfl _ _ w.heap.size _ gr0.row (0, 0) _ rfl (setRow_heap _ _ _ _ _ _ hZ.out) Tryd.underlying35 rfl rgrSize) rfl ?_
        exact HFin.out _ (H4.out.s.row _)
theorem rgrdec_any (bs : List UInt8) (hL : bs.length ≤ 549755813888) (w : World) : Calls Tryd.prog 9 #[.string (txt bs)] w (RD bs w) := by
  by_cases h4 : bs.length < 4
  · have h0 : grFirst bs = 0 ∧ grEnds bs = true := by
      match bs, h4 with
      | [], _ => exact ⟨rfl, rfl⟩
      | [_], _ => exact ⟨rfl, rfl⟩
      | [_, _], _ => exact ⟨rfl, rfl⟩
      | [_, _, _], _ => exact ⟨rfl, rfl⟩
    have hc : grCode bs = 2 := by unfold grCode; rw [if_neg (by rw [h0.1]; decide), if_pos h0.2]
    have hi : grInner bs = true := by unfold grInner; rw [h0.1, h0.2]; rfl
    refine (rgrdec_short bs w h4).mono ?_
    rintro e w' ⟨rfl, hb⟩
    exact RD.bad (n := 2) hc (by decide) hi hb
  · obtain ⟨b0, b1, b2, b3, r, rfl⟩ := grfour (by omega : 4 ≤ bs.length)
    by_cases h0 : gCode4 b0 b1 b2 b3 = 0
    · exact rgrdec_in b0 b1 b2 b3 r w h0 hL
    · have hf : grFirst (b0 :: b1 :: b2 :: b3 :: r) = gCode4 b0 b1 b2 b3 := rfl
      have hc : grCode (b0 :: b1 :: b2 :: b3 :: r) = gCode4 b0 b1 b2 b3 := by unfold grCode; rw [if_pos (by rw [hf]; exact h0), hf]
      have hi : grInner (b0 :: b1 :: b2 :: b3 :: r) = false := by unfold grInner; rw [hf, decide_eq_false h0, Bool.false_and]
      refine (rgrdec_bad b0 b1 b2 b3 r w h0).mono ?_
      rintro e w' ⟨rfl, hb⟩
      exact RD.bad hc h0 hi hb
end Go.Proofs.YtjnhfabgdegngaaDoor
