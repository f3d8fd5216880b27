/-
  What is proved: udp's parse by contract: the sum, and the datagram.
  Conditions: the bytes are fewer than 2^40.
-/
import Derived.Test.YtikcnlcpbifobaaDoorURead
namespace Go.Proofs.YtikcnlcpbifobaaDoor
open Go.RowKit

theorem Rs.below {w W W' : World} {q : Nat} {r : List UInt8} (h : Rs w W q r) (hb : Below W.heap.size W W') : Rs w W' q r := ⟨h.rdr.below hb, below_to h.old hb h.old.size, h.new, h.len⟩
/-- What parse tells of a datagram, its bytes handed over apart. -/
def PGot (a b : Nat) (p : Bool) (l : List UInt8) (m : Nat) (w : World) (e : Ending) (w' : World) : Prop := ∃ bb, e = .returned (.agg #[.int .u16 a, .int .u16 b, .bool p, .slice (some ⟨bb, 0, none⟩) m m]) ∧ w.heap.size ≤ bb ∧ w'.heap[bb]? = some (bytesObj l) ∧ Below w.heap.size w w'
set_option maxRecDepth 100000 in
set_option maxHeartbeats 8000000 in
theorem uparse_sum (a : Nat) (ha : a < 65536) (b : Nat) (hb : b < 65536) (n : Nat) (hn : n < 65536) (c : Nat) (hc : c < 65536) (r : List UInt8) (s t : Nat) (hz : 8 ≤ n) (hz2 : n ≤ 8 + r.length) (hc0 : c ≠ 0) (hck : ck (psd s t 17 (n : Nat) ++ (hd8 a b n c ++ r).take n) ≠ 0) (A : Option Addr) (cap : Nat) (w : World) (hr : Rd w (.slice A (8 + r.length) cap) (hd8 a b n c ++ r)) (hL : (hd8 a b n c ++ r).length ≤ 1099511627776) :
    Calls Tryd.prog 18 #[.slice A (8 + r.length) cap, .int .u32 (s : Int), .int .u32 (t : Int)] w (PErr 4 [] w) := by
  have hlr : 8 + r.length ≤ 1099511627776 := by simp only [List.length_append, hd8_len] at hL; exact hL
  have e0 : hd8 a b n c ++ r = (be2 a ++ (be2 b ++ (be2 n ++ (be2 c ++ r)))) := by simp [hd8]
  have HRR := Lib.hid hr
  rw [e0] at hr hL
  have HB := Lib.hid (below_al (Below.refl w.heap.size w) noDgObj)
  have HX : Hid (DgAt (w.alloc noDgObj) w.heap.size noDg (.slice none 0 0)) := by have h := DgAt.new w noDg (.slice none 0 0); rwa [noDg_obj] at h
  have HR := Lib.hid (Read_facts (.slice A (8 + r.length) cap) (be2 a ++ (be2 b ++ (be2 n ++ (be2 c ++ r)))) (w.alloc noDgObj) (hr.below (below_al (Below.refl _ _) _)) hL)
  have HL0 : Hid ((be2 a ++ (be2 b ++ (be2 n ++ (be2 c ++ r)))).length ≤ 1099511627776) := hL
  have Ha : Hid (a < 65536) := ha
  have Hb : Hid (b < 65536) := hb
  have Hn : Hid (n < 65536) := hn
  have Hc : Hid (c < 65536) := hc
  obtain ⟨Z, hZ⟩ : ∃ Z : Int, (n : Int) = Z := ⟨_, rfl⟩
  obtain ⟨M, hM⟩ : ∃ M : Int, ((8 + r.length : Nat) : Int) = M := ⟨_, rfl⟩
  have HNZ : Hid ((n : Int) = Z) := hZ
  have HMM : Hid (((8 + r.length : Nat) : Int) = M) := hM
  have hwn : IntKind.i64.wrap Z = Z := by rw [IntKind.wrap_i64]; omega
  have hcap : 8 + r.length ≤ cap := by
    obtain ⟨A', c', e', hc', _⟩ := hr
    simp only [Value.slice.injEq] at e'
    rw [e'.2.1, e'.2.2]
    exact hc'
  have g1 : 8 ≤ Z := by omega
  have g2 : decide (8 ≤ Z) = true := decide_eq_true (by omega)
  have g3 : Z ≤ M := by omega
  have g4 : decide (Z ≤ M) = true := decide_eq_true (by omega)
  obtain ⟨C, hC⟩ : ∃ C : Int, (c : Int) = C := ⟨_, rfl⟩
  have HCC : Hid ((c : Int) = C) := hC
  have gc : (C == 0) = false := by rw [← hC, ubeq_zero]; exact decide_eq_false hc0
  have g5 : Z ≤ (cap : Int) := by omega
  have g7 : Z.toNat = n := by omega
  have g8 : 0 ≤ Z := by omega
  have g9 : ¬ Z < 0 := by omega
  have HF : Hid (∀ W', Below w.heap.size w W' → Rd W' (.slice A n cap) ((hd8 a b n c ++ r).take n)) := fun W' h => by
    have h1 := (HRR.out.below h).frontAt (K := n) (by rw [List.length_append, hd8_len]; omega)
    exact h1
  have HA : Hid (∀ W, _) := fun W => ahead_f s t n W
  rw [hZ] at HA
  have HV : Hid (∀ (W : World) (g : Nat) (v2 : Value) (bb : Nat), g = W.heap.size → W.heap[bb]? = some (bytesObj (psd s t 17 (n : Nat))) → Rd W v2 ((hd8 a b n c ++ r).take n) →
      Calls Tryd.prog 33 #[.slice (some ⟨g, 0, none⟩) 2 2] (W.alloc (.cells #[.slice (some ⟨bb, 0, none⟩) 12 12, v2] 22)) fun e w' => e = .returned (.bool false) ∧ W.alloc (.cells #[.slice (some ⟨bb, 0, none⟩) 12 12, v2] 22) = w') := fun W g v2 bb hg h1 h2 => by
    have k := Valid_two hg (Rd.of_obj (c := 12) h1 (Nat.le_refl _)) h2 (by rw [psd_len, List.length_take, List.length_append, hd8_len]; omega)
    rw [decide_eq_false hck] at k
    exact k
  rw [hZ] at HV
  generalize 8 + r.length = m at *
  clear hr hL e0 ha hb hn hc hlr hz hz2 hc0 hck hcap
  generalize hW : w.alloc noDgObj = W at HX HB HR
  unfold noDgObj at hW
  go_enter Tryd.func18, Tryd.ntmps18
  go_upto_region 1 with fail
  clear hW
  go_wp2_with fail
  refine HR.out.mono ?_
  rintro e w0 ⟨q, rfl, h1, h2, h3⟩
  have R0 : Hid (Rs W w0 q (be2 a ++ (be2 b ++ (be2 n ++ (be2 c ++ r))))) := ⟨h2, h3, h1, HL0.out⟩
  clear h1 h2 h3 HR
  go_wp2_with fail
  refine (R0.out.u16 a Ha.out).mono ?_
  rintro e w1 ⟨rfl, hq⟩
  have R1 := Lib.hid hq
  clear hq R0
  go_wp2_with fail
  refine (must16_ok _ _).mono ?_
  rintro e wz ⟨rfl, rfl⟩
  go_wp2_with fail
  refine (R1.out.u16 b Hb.out).mono ?_
  rintro e w2 ⟨rfl, hq⟩
  have R2 := Lib.hid hq
  clear hq R1
  go_wp2_with fail
  refine (must16_ok _ _).mono ?_
  rintro e wz ⟨rfl, rfl⟩
  go_wp2_with fail
  refine (R2.out.u16 n Hn.out).mono ?_
  rintro e w3 ⟨rfl, hq⟩
  have R3 := Lib.hid hq
  clear hq R2
  go_wp2_with fail
  refine (must16_ok _ _).mono ?_
  rintro e wz ⟨rfl, rfl⟩
  go_wp2_with fail
  refine (R3.out.u16 c Hc.out).mono ?_
  rintro e w4 ⟨rfl, hq⟩
  have R4 := Lib.hid hq
  clear hq R3
  go_wp2_with fail
  refine (must16_ok _ _).mono ?_
  rintro e wz ⟨rfl, rfl⟩
  go_wp2_with fail
  refine (mustBe_ok _ _).mono ?_
  rintro e wz ⟨rfl, rfl⟩
  go_wp2_with fail
  refine (mustBe_ok _ _).mono ?_
  rintro e wz ⟨rfl, rfl⟩
  clear g1 g2 g3 g4
  go_upto_region 6 with fail
  refine wp_region_any (by kernel_rfl) ?_
  change wpAny _ _ _ _ _ _ _ (World.drew _)
  refine wpAny_take (i := 0) (oi := ⟨some 43, _, _, _, _, _⟩) (v := (.int .u16 C)) rfl (by kernel_rfl) (by kernel_rfl) (by kernel_rfl) (fun _ _ _ h => h) (Or.inl ⟨by rfl, ?_⟩) ?_
  · intro W
    go_simp
  try simp only [Act.put, List.setIfInBounds_toArray, List.set_cons_zero, List.set_cons_succ]
  refine wpAny_take (i := 1) (oi := ⟨some 44, _, _, _, _, _⟩) (v := (.bool false)) rfl (by kernel_rfl) (by kernel_rfl) (by kernel_rfl) (fun _ _ _ h => h) (Or.inl ⟨by rfl, ?_⟩) ?_
  · intro W
    go_simp
  try simp only [Act.put, List.setIfInBounds_toArray, List.set_cons_zero, List.set_cons_succ]
  refine wpAny_take (i := 2) (oi := ⟨some 45, _, _, _, _, _⟩) (v := (.bool false)) rfl (by kernel_rfl) (by kernel_rfl) (by kernel_rfl) (fun _ _ _ h => h) (Or.inl ⟨by rfl, ?_⟩) ?_
  · intro W
    go_simp
  try simp only [Act.put, List.setIfInBounds_toArray, List.set_cons_zero, List.set_cons_succ]
  refine wpAny_take (i := 3) (oi := ⟨some 46, _, _, _, _, _⟩) (v := (.int .u32 (s : Int))) rfl (by kernel_rfl) (by kernel_rfl) (by kernel_rfl) (fun _ _ _ h => h) (Or.inl ⟨by rfl, ?_⟩) ?_
  · intro W
    go_simp
  try simp only [Act.put, List.setIfInBounds_toArray, List.set_cons_zero, List.set_cons_succ]
  refine wpAny_take (i := 4) (oi := ⟨some 47, _, _, _, _, _⟩) (v := (.int .u32 (t : Int))) rfl (by kernel_rfl) (by kernel_rfl) (by kernel_rfl) (fun _ _ _ h => h) (Or.inl ⟨by rfl, ?_⟩) ?_
  · intro W
    go_simp
  try simp only [Act.put, List.setIfInBounds_toArray, List.set_cons_zero, List.set_cons_succ]
  refine wpAny_take (i := 5) (oi := ⟨some 48, _, _, _, _, _⟩) (v := (.int .i64 Z)) rfl (by kernel_rfl) (by kernel_rfl) (by kernel_rfl) (fun _ _ _ h => h) (Or.inl ⟨by rfl, ?_⟩) ?_
  · intro W
    go_simp
  try simp only [Act.put, List.setIfInBounds_toArray, List.set_cons_zero, List.set_cons_succ]
  refine wpAny_take (i := 7) (oi := ⟨some 50, _, _, _, _, _⟩) (v := (.slice A m cap)) rfl (by kernel_rfl) (by kernel_rfl) (by kernel_rfl) (fun _ _ _ h => h) (Or.inl ⟨by rfl, ?_⟩) ?_
  · intro W
    go_simp
  try simp only [Act.put, List.setIfInBounds_toArray, List.set_cons_zero, List.set_cons_succ]
  refine wpAny_take (i := 8) (oi := ⟨some 51, _, _, _, _, _⟩) (v := (.int .i64 Z)) rfl (by kernel_rfl) (by kernel_rfl) (by kernel_rfl) (fun _ _ _ h => h) (Or.inl ⟨by rfl, ?_⟩) ?_
  · intro W
    go_simp
  try simp only [Act.put, List.setIfInBounds_toArray, List.set_cons_zero, List.set_cons_succ]
  refine wpAny_take (i := 9) (oi := ⟨some 52, _, _, _, _, _⟩) (v := (.slice A n cap)) rfl (by kernel_rfl) (by kernel_rfl) (by kernel_rfl) (fun _ _ _ h => h) (Or.inl ⟨by rfl, ?_⟩) ?_
  · intro W
    go_simp
  try simp only [Act.put, List.setIfInBounds_toArray, List.set_cons_zero, List.set_cons_succ]
  refine wpAny_ready (rs := [6]) (by kernel_rfl) (by simp) ?_
  refine AllReady.cons (o := ⟨some 49, _, _, _, _, _⟩) rfl (fun K hK => ?_) ?_
  · have hk := Lib.hid hK
    clear hK
    go_simp
    go_at_call 34
    refine (HA.out _).mono ?_
    rintro e w6 ⟨b6, rfl, h1, h2⟩
    dsimp only
    have H6 := Lib.hid (And.intro h1 ((below_drew w4).trans h2))
    clear h1 h2
    refine hk.out _ _ ?_
    clear hk K
    try simp only [Act.put, List.setIfInBounds_toArray, List.set_cons_zero, List.set_cons_succ]
    refine wpAny_ready (rs := [10]) (by kernel_rfl) (by simp) ?_
    refine AllReady.cons (o := ⟨some 53, _, _, _, _, _⟩) rfl (fun K hK => ?_) ?_
    · have hk := Lib.hid hK
      clear hK
      go_simp
      refine hk.out _ _ ?_
      clear hk K
      try simp only [Act.put, List.setIfInBounds_toArray, List.set_cons_zero, List.set_cons_succ]
      refine wpAny_ready (rs := [11]) (by kernel_rfl) (by simp) ?_
      refine AllReady.cons (o := ⟨some 54, _, _, _, _, _⟩) rfl (fun K hK => ?_) ?_
      · have hk := Lib.hid hK
        clear hK
        go_simp
        go_at_call 33
        refine (HV.out _ _ _ _ rfl H6.out.1 (HF.out _ (below_to HB.out (below_to R4.out.old H6.out.2 R4.out.old.size) HB.out.size))).mono ?_
        rintro e w7 ⟨rfl, rfl⟩
        dsimp only
        refine hk.out _ _ ?_
        clear hk K
        try simp only [Act.put, List.setIfInBounds_toArray, List.set_cons_zero, List.set_cons_succ]
        refine wpAny_take (i := 12) (oi := ⟨some 55, _, _, _, _, _⟩) (v := (.bool false)) rfl (by kernel_rfl) (by kernel_rfl) (by kernel_rfl) (fun _ _ _ h => h) (Or.inl ⟨by rfl, ?_⟩) ?_
        · intro W
          go_simp
        try simp only [Act.put, List.setIfInBounds_toArray, List.set_cons_zero, List.set_cons_succ]
        refine wpAny_ready (rs := [13]) (by kernel_rfl) (by simp) ?_
        refine AllReady.cons (o := ⟨some 56, _, _, _, _, _⟩) rfl (fun K hK => ?_) ?_
        · have hk := Lib.hid hK
          clear hK
          go_simp
          go_at_call 32
          refine (mustBe_bad _ _).mono ?_
          rintro e w8 ⟨rfl, rfl⟩
          dsimp only
          exact ⟨rfl, _, _, rfl, chain_errno _ _, below_to HB.out (below_to R4.out.old (below_al H6.out.2 _) R4.out.old.size) HB.out.size⟩
        exact AllReady.nil
      exact AllReady.nil
    exact AllReady.nil
  exact AllReady.nil
set_option maxRecDepth 100000 in
set_option maxHeartbeats 8000000 in
theorem uparse_plain (a : Nat) (ha : a < 65536) (b : Nat) (hb : b < 65536) (n : Nat) (hn : n < 65536) (c : Nat) (hc : c < 65536) (r : List UInt8) (s t : Nat) (hz : 8 ≤ n) (hz2 : n ≤ 8 + r.length) (hc0 : c = 0) (A : Option Addr) (cap : Nat) (w : World) (hr : Rd w (.slice A (8 + r.length) cap) (hd8 a b n c ++ r)) (hL : (hd8 a b n c ++ r).length ≤ 1099511627776) :
    Calls Tryd.prog 18 #[.slice A (8 + r.length) cap, .int .u32 (s : Int), .int .u32 (t : Int)] w (PGot a b true (r.take (n - 8)) (n - 8) w) := by
  have hlr : 8 + r.length ≤ 1099511627776 := by simp only [List.length_append, hd8_len] at hL; exact hL
  have e0 : hd8 a b n c ++ r = (be2 a ++ (be2 b ++ (be2 n ++ (be2 c ++ r)))) := by simp [hd8]
  have HRR := Lib.hid hr
  rw [e0] at hr hL
  have HB := Lib.hid (below_al (Below.refl w.heap.size w) noDgObj)
  have HX : Hid (DgAt (w.alloc noDgObj) w.heap.size noDg (.slice none 0 0)) := by have h := DgAt.new w noDg (.slice none 0 0); rwa [noDg_obj] at h
  have HR := Lib.hid (Read_facts (.slice A (8 + r.length) cap) (be2 a ++ (be2 b ++ (be2 n ++ (be2 c ++ r)))) (w.alloc noDgObj) (hr.below (below_al (Below.refl _ _) _)) hL)
  have HL0 : Hid ((be2 a ++ (be2 b ++ (be2 n ++ (be2 c ++ r)))).length ≤ 1099511627776) := hL
  have Ha : Hid (a < 65536) := ha
  have Hb : Hid (b < 65536) := hb
  have Hn : Hid (n < 65536) := hn
  have Hc : Hid (c < 65536) := hc
  obtain ⟨Z, hZ⟩ : ∃ Z : Int, (n : Int) = Z := ⟨_, rfl⟩
  obtain ⟨M, hM⟩ : ∃ M : Int, ((8 + r.length : Nat) : Int) = M := ⟨_, rfl⟩
  have HNZ : Hid ((n : Int) = Z) := hZ
  have HMM : Hid (((8 + r.length : Nat) : Int) = M) := hM
  have hwn : IntKind.i64.wrap Z = Z := by rw [IntKind.wrap_i64]; omega
  have hcap : 8 + r.length ≤ cap := by
    obtain ⟨A', c', e', hc', _⟩ := hr
    simp only [Value.slice.injEq] at e'
    rw [e'.2.1, e'.2.2]
    exact hc'
  have g1 : 8 ≤ Z := by omega
  have g2 : decide (8 ≤ Z) = true := decide_eq_true (by omega)
  have g3 : Z ≤ M := by omega
  have g4 : decide (Z ≤ M) = true := decide_eq_true (by omega)
  obtain ⟨C, hC⟩ : ∃ C : Int, (c : Int) = C := ⟨_, rfl⟩
  have HCC : Hid ((c : Int) = C) := hC
  have gc : (C == 0) = true := by rw [← hC, hc0]; rfl
  obtain ⟨Z8, hZ8⟩ : ∃ Z8 : Int, Z - 8 = Z8 := ⟨_, rfl⟩
  have g6 : IntKind.i64.wrap Z8 = Z8 := by rw [IntKind.wrap_i64]; omega
  have H8 : Hid (Z8 = ((n - 8 : Nat) : Int) ∧ n - 8 ≤ r.length) := ⟨by omega, by omega⟩
  generalize 8 + r.length = m at *
  clear hr hL e0 ha hb hn hc hlr hz hz2 hc0 hcap
  generalize hW : w.alloc noDgObj = W at HX HB HR
  unfold noDgObj at hW
  go_enter Tryd.func18, Tryd.ntmps18
  go_upto_region 1 with fail
  clear hW
  go_wp2_with fail
  refine HR.out.mono ?_
  rintro e w0 ⟨q, rfl, h1, h2, h3⟩
  have R0 : Hid (Rs W w0 q (be2 a ++ (be2 b ++ (be2 n ++ (be2 c ++ r))))) := ⟨h2, h3, h1, HL0.out⟩
  clear h1 h2 h3 HR
  go_wp2_with fail
  refine (R0.out.u16 a Ha.out).mono ?_
  rintro e w1 ⟨rfl, hq⟩
  have R1 := Lib.hid hq
  clear hq R0
  go_wp2_with fail
  refine (must16_ok _ _).mono ?_
  rintro e wz ⟨rfl, rfl⟩
  go_wp2_with fail
  refine (R1.out.u16 b Hb.out).mono ?_
  rintro e w2 ⟨rfl, hq⟩
  have R2 := Lib.hid hq
  clear hq R1
  go_wp2_with fail
  refine (must16_ok _ _).mono ?_
  rintro e wz ⟨rfl, rfl⟩
  go_wp2_with fail
  refine (R2.out.u16 n Hn.out).mono ?_
  rintro e w3 ⟨rfl, hq⟩
  have R3 := Lib.hid hq
  clear hq R2
  go_wp2_with fail
  refine (must16_ok _ _).mono ?_
  rintro e wz ⟨rfl, rfl⟩
  go_wp2_with fail
  refine (R3.out.u16 c Hc.out).mono ?_
  rintro e w4 ⟨rfl, hq⟩
  have R4 := Lib.hid hq
  clear hq R3
  go_wp2_with fail
  refine (must16_ok _ _).mono ?_
  rintro e wz ⟨rfl, rfl⟩
  go_wp2_with fail
  refine (mustBe_ok _ _).mono ?_
  rintro e wz ⟨rfl, rfl⟩
  go_wp2_with fail
  refine (mustBe_ok _ _).mono ?_
  rintro e wz ⟨rfl, rfl⟩
  clear g1 g2 g3 g4
  go_upto_region 6 with fail
  go_cut [6] (fun s6 wx => s6 = .pointer (some ⟨w.heap.size, 0, none⟩) ∧ Below w4.heap.size w4 wx)
  case first =>
    refine wp_region_any (by kernel_rfl) ?_
    change wpAny _ _ _ _ _ _ _ (World.drew _)
    refine wpAny_take (i := 0) (oi := ⟨some 43, _, _, _, _, _⟩) (v := (.int .u16 C)) rfl (by kernel_rfl) (by kernel_rfl) (by kernel_rfl) (fun _ _ _ h => h) (Or.inl ⟨by rfl, ?_⟩) ?_
    · intro W
      go_simp
    try simp only [Act.put, List.setIfInBounds_toArray, List.set_cons_zero, List.set_cons_succ]
    refine wpAny_take (i := 1) (oi := ⟨some 44, _, _, _, _, _⟩) (v := (.bool true)) rfl (by kernel_rfl) (by kernel_rfl) (by kernel_rfl) (fun _ _ _ h => h) (Or.inl ⟨by rfl, ?_⟩) ?_
    · intro W
      go_simp
    try simp only [Act.put, List.setIfInBounds_toArray, List.set_cons_zero, List.set_cons_succ]
    refine wpAny_take (i := 2) (oi := ⟨some 45, _, _, _, _, _⟩) (v := (.bool true)) rfl (by kernel_rfl) (by kernel_rfl) (by kernel_rfl) (fun _ _ _ h => h) (Or.inl ⟨by rfl, ?_⟩) ?_
    · intro W
      go_simp
    try simp only [Act.put, List.setIfInBounds_toArray, List.set_cons_zero, List.set_cons_succ]
    refine wpAny_take (i := 3) (oi := ⟨some 46, _, _, _, _, _⟩) (v := undef) rfl (by kernel_rfl) (by kernel_rfl) (by kernel_rfl) (fun _ _ _ h => h) (Or.inr ⟨by rfl, rfl⟩) ?_
    try simp only [Act.put, List.setIfInBounds_toArray, List.set_cons_zero, List.set_cons_succ]
    refine wpAny_take (i := 4) (oi := ⟨some 47, _, _, _, _, _⟩) (v := undef) rfl (by kernel_rfl) (by kernel_rfl) (by kernel_rfl) (fun _ _ _ h => h) (Or.inr ⟨by rfl, rfl⟩) ?_
    try simp only [Act.put, List.setIfInBounds_toArray, List.set_cons_zero, List.set_cons_succ]
    refine wpAny_take (i := 5) (oi := ⟨some 48, _, _, _, _, _⟩) (v := undef) rfl (by kernel_rfl) (by kernel_rfl) (by kernel_rfl) (fun _ _ _ h => h) (Or.inr ⟨by rfl, rfl⟩) ?_
    try simp only [Act.put, List.setIfInBounds_toArray, List.set_cons_zero, List.set_cons_succ]
    refine wpAny_take (i := 6) (oi := ⟨some 49, _, _, _, _, _⟩) (v := undef) rfl (by kernel_rfl) (by kernel_rfl) (by kernel_rfl) (fun _ _ _ h => h) (Or.inr ⟨by rfl, rfl⟩) ?_
    try simp only [Act.put, List.setIfInBounds_toArray, List.set_cons_zero, List.set_cons_succ]
    refine wpAny_take (i := 7) (oi := ⟨some 50, _, _, _, _, _⟩) (v := undef) rfl (by kernel_rfl) (by kernel_rfl) (by kernel_rfl) (fun _ _ _ h => h) (Or.inr ⟨by rfl, rfl⟩) ?_
    try simp only [Act.put, List.setIfInBounds_toArray, List.set_cons_zero, List.set_cons_succ]
    refine wpAny_take (i := 8) (oi := ⟨some 51, _, _, _, _, _⟩) (v := undef) rfl (by kernel_rfl) (by kernel_rfl) (by kernel_rfl) (fun _ _ _ h => h) (Or.inr ⟨by rfl, rfl⟩) ?_
    try simp only [Act.put, List.setIfInBounds_toArray, List.set_cons_zero, List.set_cons_succ]
    refine wpAny_take (i := 9) (oi := ⟨some 52, _, _, _, _, _⟩) (v := undef) rfl (by kernel_rfl) (by kernel_rfl) (by kernel_rfl) (fun _ _ _ h => h) (Or.inr ⟨by rfl, rfl⟩) ?_
    try simp only [Act.put, List.setIfInBounds_toArray, List.set_cons_zero, List.set_cons_succ]
    refine wpAny_take (i := 10) (oi := ⟨some 53, _, _, _, _, _⟩) (v := undef) rfl (by kernel_rfl) (by kernel_rfl) (by kernel_rfl) (fun _ _ _ h => h) (Or.inr ⟨by rfl, rfl⟩) ?_
    try simp only [Act.put, List.setIfInBounds_toArray, List.set_cons_zero, List.set_cons_succ]
    refine wpAny_take (i := 11) (oi := ⟨some 54, _, _, _, _, _⟩) (v := undef) rfl (by kernel_rfl) (by kernel_rfl) (by kernel_rfl) (fun _ _ _ h => h) (Or.inr ⟨by rfl, rfl⟩) ?_
    try simp only [Act.put, List.setIfInBounds_toArray, List.set_cons_zero, List.set_cons_succ]
    refine wpAny_take (i := 12) (oi := ⟨some 55, _, _, _, _, _⟩) (v := (.bool true)) rfl (by kernel_rfl) (by kernel_rfl) (by kernel_rfl) (fun _ _ _ h => h) (Or.inl ⟨by rfl, ?_⟩) ?_
    · intro W
      go_simp
    try simp only [Act.put, List.setIfInBounds_toArray, List.set_cons_zero, List.set_cons_succ]
    refine wpAny_ready (rs := [13]) (by kernel_rfl) (by simp) ?_
    refine AllReady.cons (o := ⟨some 56, _, _, _, _, _⟩) rfl (fun K hK => ?_) ?_
    · have hk := Lib.hid hK
      clear hK
      go_simp
      go_at_call 32
      refine (mustBe_ok _ _).mono ?_
      rintro e w8 ⟨rfl, rfl⟩
      dsimp only
      refine hk.out _ _ ?_
      clear hk K
      try simp only [Act.put, List.setIfInBounds_toArray, List.set_cons_zero, List.set_cons_succ]
      refine wpAny_done (by kernel_rfl) ?_ _
      go_wp2_with fail
      go_meet
      exact ⟨rfl, below_drew w4⟩
    exact AllReady.nil
  obtain ⟨rfl, hb5⟩ := hcut
  have R5 := Lib.hid (R4.out.below hb5)
  clear hb5 R4
  generalize wc = w5 at *
  go_wp2_with fail
  refine (R5.out.bytesI (n - 8) _ H8.out.1 H8.out.2).mono ?_
  rintro e w6 ⟨bb, rfl, h1, h2, h3⟩
  have HZ : Hid (w6.heap[w.heap.size]? = some (.cells noDgRow 25)) := be_block h3.old HX.out
  have HQ := Lib.hid (below_to HB.out h3.old HB.out.size)
  have HO := Lib.hid h2
  have HN : Hid (w.heap.size < bb) := by
    have a1 := HX.out.lt
    have a2 := R5.out.old.size
    show _ < _
    omega
  clear h1 h2 h3 R5 HX HB
  go_wp2_with fail
  refine (mustB_ok _ _ _ _).mono ?_
  rintro e wz ⟨rfl, rfl⟩
  go_wp2_with (refine wpList_store_row rfl 25 (.tmp 6) (.tmp 68) rfl w.heap.size #[.int .u16 a, .int .u16 b, .bool true, .slice (some ⟨bb, 0, none⟩) (n - 8) (n - 8)] rfl rfl 25 _ HZ.out dgSize rfl (by simp [Value.oneCell']) ?_)
  (try simp only [Exit.inBlock, Exit.then])
  refine bodyPost_ret (results_cell_row rfl _ _ w.heap.size _ #[.int .u16 a, .int .u16 b, .bool true, .slice (some ⟨bb, 0, none⟩) (n - 8) (n - 8)] (0, 0) _ rfl (setRow_heap _ _ _ _ _ _ HZ.out) Tryd.underlying25 rfl dgSize) rfl ?_
  exact ⟨bb, rfl, Nat.le_of_lt HN.out, (setRow_other _ _ _ (Nat.ne_of_gt HN.out)).trans HO.out, ((Fr.of_below (p := fun _ => False) HQ.out).row (Nat.le_refl _) _).below (Nat.le_refl _) (fun _ h => h.elim)⟩
set_option maxRecDepth 100000 in
set_option maxHeartbeats 8000000 in
theorem uparse_ok (a : Nat) (ha : a < 65536) (b : Nat) (hb : b < 65536) (n : Nat) (hn : n < 65536) (c : Nat) (hc : c < 65536) (r : List UInt8) (s t : Nat) (hz : 8 ≤ n) (hz2 : n ≤ 8 + r.length) (hc0 : c ≠ 0) (hck : ck (psd s t 17 (n : Nat) ++ (hd8 a b n c ++ r).take n) = 0) (A : Option Addr) (cap : Nat) (w : World) (hr : Rd w (.slice A (8 + r.length) cap) (hd8 a b n c ++ r)) (hL : (hd8 a b n c ++ r).length ≤ 1099511627776) :
    Calls Tryd.prog 18 #[.slice A (8 + r.length) cap, .int .u32 (s : Int), .int .u32 (t : Int)] w (PGot a b false (r.take (n - 8)) (n - 8) w) := by
  have hlr : 8 + r.length ≤ 1099511627776 := by simp only [List.length_append, hd8_len] at hL; exact hL
  have e0 : hd8 a b n c ++ r = (be2 a ++ (be2 b ++ (be2 n ++ (be2 c ++ r)))) := by simp [hd8]
  have HRR := Lib.hid hr
  rw [e0] at hr hL
  have HB := Lib.hid (below_al (Below.refl w.heap.size w) noDgObj)
  have HX : Hid (DgAt (w.alloc noDgObj) w.heap.size noDg (.slice none 0 0)) := by have h := DgAt.new w noDg (.slice none 0 0); rwa [noDg_obj] at h
  have HR := Lib.hid (Read_facts (.slice A (8 + r.length) cap) (be2 a ++ (be2 b ++ (be2 n ++ (be2 c ++ r)))) (w.alloc noDgObj) (hr.below (below_al (Below.refl _ _) _)) hL)
  have HL0 : Hid ((be2 a ++ (be2 b ++ (be2 n ++ (be2 c ++ r)))).length ≤ 1099511627776) := hL
  have Ha : Hid (a < 65536) := ha
  have Hb : Hid (b < 65536) := hb
  have Hn : Hid (n < 65536) := hn
  have Hc : Hid (c < 65536) := hc
  obtain ⟨Z, hZ⟩ : ∃ Z : Int, (n : Int) = Z := ⟨_, rfl⟩
  obtain ⟨M, hM⟩ : ∃ M : Int, ((8 + r.length : Nat) : Int) = M := ⟨_, rfl⟩
  have HNZ : Hid ((n : Int) = Z) := hZ
  have HMM : Hid (((8 + r.length : Nat) : Int) = M) := hM
  have hwn : IntKind.i64.wrap Z = Z := by rw [IntKind.wrap_i64]; omega
  have hcap : 8 + r.length ≤ cap := by
    obtain ⟨A', c', e', hc', _⟩ := hr
    simp only [Value.slice.injEq] at e'
    rw [e'.2.1, e'.2.2]
    exact hc'
  have g1 : 8 ≤ Z := by omega
  have g2 : decide (8 ≤ Z) = true := decide_eq_true (by omega)
  have g3 : Z ≤ M := by omega
  have g4 : decide (Z ≤ M) = true := decide_eq_true (by omega)
  obtain ⟨C, hC⟩ : ∃ C : Int, (c : Int) = C := ⟨_, rfl⟩
  have HCC : Hid ((c : Int) = C) := hC
  have gc : (C == 0) = false := by rw [← hC, ubeq_zero]; exact decide_eq_false hc0
  have g5 : Z ≤ (cap : Int) := by omega
  have g7 : Z.toNat = n := by omega
  have g8 : 0 ≤ Z := by omega
  have g9 : ¬ Z < 0 := by omega
  have HF : Hid (∀ W', Below w.heap.size w W' → Rd W' (.slice A n cap) ((hd8 a b n c ++ r).take n)) := fun W' h => by
    have h1 := (HRR.out.below h).frontAt (K := n) (by rw [List.length_append, hd8_len]; omega)
    exact h1
  have HA : Hid (∀ W, _) := fun W => ahead_f s t n W
  rw [hZ] at HA
  have HV : Hid (∀ (W : World) (g : Nat) (v2 : Value) (bb : Nat), g = W.heap.size → W.heap[bb]? = some (bytesObj (psd s t 17 (n : Nat))) → Rd W v2 ((hd8 a b n c ++ r).take n) →
      Calls Tryd.prog 33 #[.slice (some ⟨g, 0, none⟩) 2 2] (W.alloc (.cells #[.slice (some ⟨bb, 0, none⟩) 12 12, v2] 22)) fun e w' => e = .returned (.bool true) ∧ W.alloc (.cells #[.slice (some ⟨bb, 0, none⟩) 12 12, v2] 22) = w') := fun W g v2 bb hg h1 h2 => by
    have k := Valid_two hg (Rd.of_obj (c := 12) h1 (Nat.le_refl _)) h2 (by rw [psd_len, List.length_take, List.length_append, hd8_len]; omega)
    rw [decide_eq_true hck] at k
    exact k
  rw [hZ] at HV
  obtain ⟨Z8, hZ8⟩ : ∃ Z8 : Int, Z - 8 = Z8 := ⟨_, rfl⟩
  have g6 : IntKind.i64.wrap Z8 = Z8 := by rw [IntKind.wrap_i64]; omega
  have H8 : Hid (Z8 = ((n - 8 : Nat) : Int) ∧ n - 8 ≤ r.length) := ⟨by omega, by omega⟩
  generalize 8 + r.length = m at *
  clear hr hL e0 ha hb hn hc hlr hz hz2 hc0 hck hcap
  generalize hW : w.alloc noDgObj = W at HX HB HR
  unfold noDgObj at hW
  go_enter Tryd.func18, Tryd.ntmps18
  go_upto_region 1 with fail
  clear hW
  go_wp2_with fail
  refine HR.out.mono ?_
  rintro e w0 ⟨q, rfl, h1, h2, h3⟩
  have R0 : Hid (Rs W w0 q (be2 a ++ (be2 b ++ (be2 n ++ (be2 c ++ r))))) := ⟨h2, h3, h1, HL0.out⟩
  clear h1 h2 h3 HR
  go_wp2_with fail
  refine (R0.out.u16 a Ha.out).mono ?_
  rintro e w1 ⟨rfl, hq⟩
  have R1 := Lib.hid hq
  clear hq R0
  go_wp2_with fail
  refine (must16_ok _ _).mono ?_
  rintro e wz ⟨rfl, rfl⟩
  go_wp2_with fail
  refine (R1.out.u16 b Hb.out).mono ?_
  rintro e w2 ⟨rfl, hq⟩
  have R2 := Lib.hid hq
  clear hq R1
  go_wp2_with fail
  refine (must16_ok _ _).mono ?_
  rintro e wz ⟨rfl, rfl⟩
  go_wp2_with fail
  refine (R2.out.u16 n Hn.out).mono ?_
  rintro e w3 ⟨rfl, hq⟩
  have R3 := Lib.hid hq
  clear hq R2
  go_wp2_with fail
  refine (must16_ok _ _).mono ?_
  rintro e wz ⟨rfl, rfl⟩
  go_wp2_with fail
  refine (R3.out.u16 c Hc.out).mono ?_
  rintro e w4 ⟨rfl, hq⟩
  have R4 := Lib.hid hq
  clear hq R3
  go_wp2_with fail
  refine (must16_ok _ _).mono ?_
  rintro e wz ⟨rfl, rfl⟩
  go_wp2_with fail
  refine (mustBe_ok _ _).mono ?_
  rintro e wz ⟨rfl, rfl⟩
  go_wp2_with fail
  refine (mustBe_ok _ _).mono ?_
  rintro e wz ⟨rfl, rfl⟩
  clear g1 g2 g3 g4
  go_upto_region 6 with fail
  go_cut [6] (fun s6 wx => s6 = .pointer (some ⟨w.heap.size, 0, none⟩) ∧ Below w4.heap.size w4 wx)
  case first =>
    go_region_held_law (fun _ => True) (first | assumption | exact trivial)
      (first
        | (go_at_call 34; (with_reducible refine (HA.out _).mono ?_); rintro e w6 ⟨b6, rfl, h1, h2⟩; (have H6 := Lib.hid (And.intro h1 ((below_drew w4).trans h2))); clear h1 h2)
        | (go_at_call 33; refine (HV.out _ _ _ _ rfl H6.out.1 (HF.out _ (below_to HB.out (below_to R4.out.old H6.out.2 R4.out.old.size) HB.out.size))).mono ?_; rintro e w7 ⟨rfl, rfl⟩)
        | (go_at_call 32; refine (mustBe_ok _ _).mono ?_; rintro e w8 ⟨rfl, rfl⟩))
    all_goals
      go_wp2_with fail
      go_meet
      exact ⟨rfl, below_al H6.out.2 _⟩
  obtain ⟨rfl, hb5⟩ := hcut
  have R5 := Lib.hid (R4.out.below hb5)
  clear hb5 R4
  generalize wc = w5 at *
  go_wp2_with fail
  refine (R5.out.bytesI (n - 8) _ H8.out.1 H8.out.2).mono ?_
  rintro e w6 ⟨bb, rfl, h1, h2, h3⟩
  have HZ : Hid (w6.heap[w.heap.size]? = some (.cells noDgRow 25)) := be_block h3.old HX.out
  have HQ := Lib.hid (below_to HB.out h3.old HB.out.size)
  have HO := Lib.hid h2
  have HN : Hid (w.heap.size < bb) := by
    have a1 := HX.out.lt
    have a2 := R5.out.old.size
    show _ < _
    omega
  clear h1 h2 h3 R5 HX HB
  go_wp2_with fail
  refine (mustB_ok _ _ _ _).mono ?_
  rintro e wz ⟨rfl, rfl⟩
  go_wp2_with (refine wpList_store_row rfl 25 (.tmp 6) (.tmp 68) rfl w.heap.size #[.int .u16 a, .int .u16 b, .bool false, .slice (some ⟨bb, 0, none⟩) (n - 8) (n - 8)] rfl rfl 25 _ HZ.out dgSize rfl (by simp [Value.oneCell']) ?_)
  (try simp only [Exit.inBlock, Exit.then])
  refine bodyPost_ret (results_cell_row rfl _ _ w.heap.size _ #[.int .u16 a, .int .u16 b, .bool false, .slice (some ⟨bb, 0, none⟩) (n - 8) (n - 8)] (0, 0) _ rfl (setRow_heap _ _ _ _ _ _ HZ.out) Tryd.underlying25 rfl dgSize) rfl ?_
  exact ⟨bb, rfl, Nat.le_of_lt HN.out, (setRow_other _ _ _ (Nat.ne_of_gt HN.out)).trans HO.out, ((Fr.of_below (p := fun _ => False) HQ.out).row (Nat.le_refl _) _).below (Nat.le_refl _) (fun _ h => h.elim)⟩
end Go.Proofs.YtikcnlcpbifobaaDoor
