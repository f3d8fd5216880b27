/-
  What is proved: the law GreSums answers true for any header, frame, place and number, and leaves all older memory as it was.
  Conditions: the slice is of fewer than 2^63 bytes.
-/
import Derived.Test.YtjnhfabgdegngaaLawGrBack
import Derived.Deep.RegionHeldLaw
namespace Go.Proofs.Ytjnhfabgdegngaa
open Go.RowKit

/-- The law's box of the header. -/
structure GBX (w : World) (G : Nat) (h : GH) (W : World) : Prop where
  box : GBox W G h
  old : Below w.heap.size w W
  lo : w.heap.size ≤ G
section
variable {w W W' : World} {G : Nat} {h : GH}
theorem GBX.new (w : World) (h : GH) : GBX w w.heap.size h (w.alloc h.obj) := ⟨GBox.new w h, gbelow_al (Below.refl _ _) _, Nat.le_refl _⟩
theorem GBX.below (k : GBX w G h W) (hb : Below W.heap.size W W') : GBX w G h W' := ⟨k.box.below hb, below_to k.old hb k.old.size, k.lo⟩
theorem GBX.set (k : GBX w G h W) (i : Nat) (v : Value) (h' : GH) (hh : h.row.setIfInBounds i v = h'.row) : GBX w G h' (W.setCell ⟨G, i, none⟩ v) := by
  have hf : Fr (· = (⟨G, i, none⟩ : Addr)) W (W.setCell ⟨G, i, none⟩ v) := Fr.of_set W _ v rfl
  refine ⟨⟨?_⟩, below_to k.old (hf.below (B := w.heap.size) k.old.size (fun x hx => by subst hx; exact k.lo)) (Nat.le_refl _), k.lo⟩
  have := gset_heap W G i v _ _ _ k.box.o
  rw [hh] at this
  exact this
end
theorem bytes_set {W : World} {g : Nat} {P : List UInt8} (h : W.heap[g]? = some (bytesObj P)) (j : Nat) (y : UInt8) : (W.setCell ⟨g, j, none⟩ (.int .u8 (y.toNat : Int))).heap[g]? = some (bytesObj (P.set j y)) := by
  have := gset_heap W g j (.int .u8 (y.toNat : Int)) _ _ _ (show W.heap[g]? = some (.cells (P.map B8).toArray 5 (0, 0)) from h)
  rw [this]
  unfold bytesObj
  congr 2
  rw [List.setIfInBounds_toArray, List.map_set]
  rfl
theorem bytes_free {W : World} {g : Nat} {P : List UInt8} (h : W.heap[g]? = some (bytesObj P)) (j : Nat) : W.frozen? ⟨g, j, none⟩ = false := by simp [World.frozen?, h, bytesObj]
/-- A byte that is xored with something else is another one. -/
theorem gxor (u : UInt8) (n : Nat) (hn : n < 256) (h0 : n ≠ 0) : ∃ y : UInt8, bits .xor .u8 (u.toNat : Int) (n : Int) = (y.toNat : Int) ∧ u ≠ y := by
  have hu := u.toNat_lt
  have hx : u.toNat ^^^ n < 256 := Nat.xor_lt_two_pow (n := 8) hu hn
  refine ⟨UInt8.ofNat (u.toNat ^^^ n), ?_, fun e => h0 ?_⟩
  · rw [u8_xor_nat u.toNat n hu hn, ofNat_lt, Nat.mod_eq_of_lt hx]
  · have e2 : u.toNat = u.toNat ^^^ n := by
      have := congrArg UInt8.toNat e
      rwa [ofNat_lt, Nat.mod_eq_of_lt hx] at this
    have e3 : u.toNat ^^^ (u.toNat ^^^ n) = 0 := by rw [← e2, Nat.xor_self]
    rw [← Nat.xor_assoc, Nat.xor_self, Nat.zero_xor] at e3
    exact e3
set_option maxRecDepth 100000 in
set_option maxHeartbeats 4000000 in
theorem grSums_any (h0 : GH) (hf : h0.Fit) (A : Option Addr) (c : Nat) (l0 : List UInt8) (at0 : Int) (n : Nat) (w : World) (hc : c ≤ 9223372036854775807) (hr0 : Rd w (.slice A l0.length c) l0) (hn : n < 256) :
    Calls Try.prog 4 #[.agg #[.bool h0.s, .bool h0.k, .int .u32 (h0.key : Int), .bool h0.q, .int .u32 (h0.seq : Int)], .slice A l0.length c, .int .i64 at0, .int .u8 (n : Int)] w fun e w' => e = .returned (.bool true) ∧ Below w.heap.size w w' := by
  have hlc := hr0.cap_le
  obtain ⟨l, hl, hr⟩ := grfront l0 hr0
  have HF : Hid (∀ W, _) := fun W => grfew_any A l0.length c W hc hlc l.length hl
  have HL : Hid (l.length ≤ 10000) := by show _ ≤ _; omega
  have HR := Lib.hid hr
  have HX := Lib.hid (GBX.new w h0)
  obtain ⟨h, hh⟩ : ∃ h : GH, h = ⟨true, h0.k, h0.key, h0.q, h0.seq⟩ := ⟨_, rfl⟩
  have HFit : Hid h.Fit := by subst hh; exact ⟨hf.key, hf.seq⟩
  have HS : Hid (h.s = true) := by subst hh; rfl
  have HH : Hid (∀ i v, h0.row.setIfInBounds 0 (.bool true) = h.row ∧ (i : Nat) = i ∧ (v : Nat) = v) := fun i v => ⟨by subst hh; rfl, rfl, rfl⟩
  have HNB := Lib.hid hn
  clear hl hr hr0 hlc hf hh hn
  go_enter Try.func4, Try.ntmps4
  go_upto_region 1 with fail
  generalize hW : w.alloc h0.obj = W at HX
  unfold GH.obj GH.row at hW
  rw [hW]
  clear hW
  generalize hG : w.heap.size = G at *
  have HE := Lib.hid hG
  clear hG
  go_wp2_with fail
  refine (grShown_any W).mono ?_
  rintro e w1 ⟨rfl, hb1⟩
  have HX1 := Lib.hid (HX.out.below hb1)
  have HX2 := Lib.hid (HX1.out.set 0 (.bool true) h (HH.out 0 0).1)
  have c0 := HX1.out.box.c0
  have f0 := HX1.out.box.free 0
  clear hb1 HX
  go_upto_region 3 with fail
  clear c0 f0 HX1
  generalize w1.setCell ⟨G, 0, none⟩ (.bool true) = W2 at *
  have KS : Hid (∀ W', Below W2.heap.size W2 W' → W'.cell? ⟨G, 0, none⟩ = some (.bool h.s) ∧ W'.cell? ⟨G, 1, none⟩ = some (.bool h.k) ∧ W'.cell? ⟨G, 2, none⟩ = some (.int .u32 (h.key : Int)) ∧ W'.cell? ⟨G, 3, none⟩ = some (.bool h.q) ∧ W'.cell? ⟨G, 4, none⟩ = some (.int .u32 (h.seq : Int))) := fun W' k => (HX2.out.box.below k).cells
  have HD : Hid (GBX w G h W2.drew) := HX2.out.below (below_drew W2)
  have HRD : Hid (Rd W2.drew (.slice A l.length c) l) := HR.out.below (by have := HD.out.old; rw [HE.out] at this ⊢; exact this)
  by_cases h2 : frameWrong l.length = 0
  · obtain ⟨h3, h4⟩ := grframe_fits h2
    have HB14 := Lib.hid (And.intro h3 h4)
    have HPL := Lib.hid (h.pack_len l)
    have HAt := Lib.hid h.at_le
    have XE := Lib.hid (grencap_ok h HFit.out A c l W2.drew HRD.out h3 h4)
    have HCD : Hid (∀ i x y, (h.pack l)[i + 4]? = some x → x ≠ y → grCode ((h.pack l).set (i + 4) y) = 4) := fun i x y hi hxy => grsum_code h HFit.out HS.out l i x y hi hxy
    clear h2 h3 h4
    generalize hP : h.pack l = P at *
    clear hP
    generalize hN : P.length = N at *
    have HN := Lib.hid hN
    clear hN
    unfold GEGood at XE
    go_region_held_law (fun W' => W'.cell? ⟨G, 0, none⟩ = some (.bool h.s) ∧ W'.cell? ⟨G, 1, none⟩ = some (.bool h.k) ∧ W'.cell? ⟨G, 2, none⟩ = some (.int .u32 (h.key : Int)) ∧ W'.cell? ⟨G, 3, none⟩ = some (.bool h.q) ∧ W'.cell? ⟨G, 4, none⟩ = some (.int .u32 (h.seq : Int)))
      (first | assumption | exact KS.out _ (below_drew W2) | exact HK.out.1.box.cells)
      (first
        | (go_at_call 10; refine (HF.out _).mono ?_; rintro e w2 ⟨rfl, rfl⟩)
        | (go_at_call 11; refine XE.out.mono ?_; rintro e w3 ⟨g, he, hg3, ho3, hb3⟩; (rw [HN.out] at he); subst he; (have HK := Lib.hid (And.intro (HD.out.below hb3) (And.intro ho3 hg3))); clear hg3 ho3 hb3))
    all_goals
      have hNb : 18 ≤ N ∧ N ≤ 9016 := by
        have h1 := HPL.out
        have h2 := HAt.out
        have h3 := HB14.out
        omega
      obtain ⟨hN1, hN2⟩ := hNb
      have ha := and_low_i64 at0
      obtain ⟨p, hp⟩ : ∃ p : Nat, at0 % 65536 = (p : Int) := ⟨(at0 % 65536).toNat, by omega⟩
      rw [hp] at ha
      obtain ⟨i, hi⟩ : ∃ i, i = p % (N - 4) := ⟨_, rfl⟩
      have hil : i < N - 4 := by rw [hi]; exact Nat.mod_lt _ (by omega)
      have hii : ((p : Int) % ((N : Int) - 4)) = (i : Int) := by
        rw [hi, show ((N : Int) - 4) = ((N - 4 : Nat) : Int) by omega]
        simp
      obtain ⟨j, hj⟩ : ∃ j, j = i + 4 := ⟨_, rfl⟩
      have hjl : j < N := by omega
      have hjj : (4 : Int) + (i : Int) = (j : Int) := by omega
      obtain ⟨u, hu⟩ : ∃ u, P[j]? = some u := ⟨P[j]'(by have := HN.out; omega), List.getElem?_eq_getElem _⟩
      have cu : w3.cell? ⟨g, j, none⟩ = some (.int .u8 (u.toNat : Int)) := bytesCell HK.out.2.1 j u hu
      have fu : w3.frozen? ⟨g, j, none⟩ = false := bytes_free HK.out.2.1 j
      by_cases hn0 : n = 0
      · have q : ((n : Int) == 0) = true := by rw [beq_iff_eq]; omega
        clear hn0 hi hil hj hp hu
        generalize (n : Int) = Z at *
        go_wp2_with fail
        go_ret
        exact ⟨rfl, HK.out.1.old⟩
      · have q : ((n : Int) == 0) = false := by rw [beq_eq_false_iff_ne]; omega
        obtain ⟨y, hy, huy⟩ := gxor u n HNB.out hn0
        have hcode := HCD.out i u y (by rw [← hj]; exact hu) huy
        rw [← hj] at hcode
        have ho' := bytes_set HK.out.2.1 j y
        have hl' : (P.set j y).length = N := by rw [List.length_set]; exact HN.out
        have hb' : Below w.heap.size w (w3.setCell ⟨g, j, none⟩ (.int .u8 (y.toNat : Int))) :=
          below_to HK.out.1.old ((Fr.of_set (p := (· = (⟨g, j, none⟩ : Addr))) w3 _ _ rfl).below (B := w.heap.size) HK.out.1.old.size (fun x hx => by subst hx; have h1 := HK.out.2.2; have h2 := HD.out.box.lt; have h3 := HD.out.lo; simp only; omega)) (Nat.le_refl _)
        have XD : Hid (Calls Try.prog 12 #[.slice (some ⟨g, 0, none⟩) N N] (w3.setCell ⟨g, j, none⟩ (.int .u8 (y.toNat : Int))) fun e w' => ∃ ns, GRBad 4 ns (w3.setCell ⟨g, j, none⟩ (.int .u8 (y.toNat : Int))) e w') := by
          have hd := grdec_any (bs := P.set j y) (w := w3.setCell ⟨g, j, none⟩ (.int .u8 (y.toNat : Int))) (A := some ⟨g, 0, none⟩) (c := (P.set j y).length) (Rd.of_obj ho' (Nat.le_refl _)) (by omega)
          rw [hl'] at hd
          refine hd.mono ?_
          rintro e w' (⟨_, k⟩ | ⟨k, _⟩)
          · rw [hcode] at k; exact ⟨_, k⟩
          · rw [hcode] at k; cases k
        have HB' := Lib.hid hb'
        unfold GRBad at XD
        clear hn0 hi hil hj hp hu huy hcode ho' hl' hb'
        generalize (n : Int) = Z at *
        go_wp2_with fail
        refine XD.out.mono ?_
        rintro e w4 ⟨ns, b4, he, hc4, hb4⟩
        have he' : e = .returned (.tuple #[.agg #[.bool false, .bool false, .int .u32 0, .bool false, .int .u32 0], .slice none 0 0, .iface 71 (.pointer (some ⟨b4, 0, none⟩))]) := he
        subst he'
        have HC4 : Hid (∀ o, _) := fun o => is_any 4 4 _ _ _ (hc4.below ((Below.refl _ _).alloc (Nat.le_refl _) o))
        have HB4 : Hid (∀ o, Below w.heap.size w (w4.alloc o)) := fun o => by
          have h1 := below_to HB'.out hb4 HB'.out.size
          exact h1.alloc h1.size o
        clear he hc4 hb4
        go_wp2_with fail
        refine (HC4.out _).mono ?_
        rintro e w' ⟨he, rfl⟩
        have he' : e = .returned (.bool true) := he
        subst he'
        clear he
        go_wp2_with fail
        go_ret
        exact ⟨rfl, HB4.out _⟩
  · have XE := Lib.hid (grencap_bad h A l.length c W2.drew h2)
    unfold GEBad at XE
    clear h2
    go_region_held_law (fun W' => W'.cell? ⟨G, 0, none⟩ = some (.bool h.s) ∧ W'.cell? ⟨G, 1, none⟩ = some (.bool h.k) ∧ W'.cell? ⟨G, 2, none⟩ = some (.int .u32 (h.key : Int)) ∧ W'.cell? ⟨G, 3, none⟩ = some (.bool h.q) ∧ W'.cell? ⟨G, 4, none⟩ = some (.int .u32 (h.seq : Int)))
      (first | assumption | exact KS.out _ (below_drew W2) | exact HK.out.box.cells)
      (first
        | (go_at_call 10; refine (HF.out _).mono ?_; rintro e w2 ⟨rfl, rfl⟩)
        | (go_at_call 11; refine XE.out.mono ?_; rintro e w3 ⟨b, rfl, _, hb3⟩; (have HK := Lib.hid (HD.out.below hb3)); clear hb3))
    all_goals
      go_wp2_with fail
      go_ret
      exact ⟨rfl, HK.out.old⟩
end Go.Proofs.Ytjnhfabgdegngaa
