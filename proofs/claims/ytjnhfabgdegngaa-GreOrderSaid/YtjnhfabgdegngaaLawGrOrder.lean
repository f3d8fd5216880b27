/-
  What is proved: the law GreOrder answers true for any numbers, and leaves all older memory as it was.
  Conditions: the slice is of fewer than 2^63 numbers.
-/
import Derived.Test.YtjnhfabgdegngaaLawGrOnce
import Derived.Deep.RegionHeldLaw
namespace Go.Proofs.Ytjnhfabgdegngaa
open Go.RowKit

/-- The document's Order. -/
structure RefAt (W : World) (g : Nat) (b : Bool) (l : Nat) : Prop where
  o : W.heap[g]? = some (.cells (ordRow b l) 45)
theorem RefAt.lt {W : World} {g : Nat} {b : Bool} {l : Nat} (h : RefAt W g b l) : g < W.heap.size := (Array.getElem?_eq_some_iff.1 h.o).1
theorem RefAt.c0 {W : World} {g : Nat} {b : Bool} {l : Nat} (h : RefAt W g b l) : W.cell? ⟨g, 0, none⟩ = some (.bool b) := by rw [cell_of_row W g 0 _ _ _ h.o]; rfl
theorem RefAt.c1 {W : World} {g : Nat} {b : Bool} {l : Nat} (h : RefAt W g b l) : W.cell? ⟨g, 1, none⟩ = some (.int .u32 (l : Int)) := by rw [cell_of_row W g 1 _ _ _ h.o]; rfl
theorem RefAt.free {W : World} {g : Nat} {b : Bool} {l : Nat} (h : RefAt W g b l) (i : Nat) : W.frozen? ⟨g, i, none⟩ = false := by simp [World.frozen?, h.o]
theorem goset (W : World) (g i : Nat) (v : Value) (cs : Array Value) (t : TypeId) (f : Nat × Nat) (hg : W.heap[g]? = some (.cells cs t f)) : (W.setCell ⟨g, i, none⟩ v).heap[g]? = some (.cells (cs.setIfInBounds i v) t f) := by
  unfold World.setCell
  simp only [Array.getElem?_modify]
  rw [hg]
  simp
theorem RefAt.set0 {W : World} {g : Nat} {b : Bool} {l : Nat} (h : RefAt W g b l) (b' : Bool) : RefAt (W.setCell ⟨g, 0, none⟩ (.bool b')) g b' l := ⟨goset W g 0 _ _ _ _ h.o⟩
theorem RefAt.set1 {W : World} {g : Nat} {b : Bool} {l : Nat} (h : RefAt W g b l) (l' : Nat) : RefAt (W.setCell ⟨g, 1, none⟩ (.int .u32 (l' : Int))) g b l' := ⟨goset W g 1 _ _ _ _ h.o⟩
theorem fr_blk (W : World) (g i : Nat) (v : Value) : Fr (fun a => a.block = g) W (W.setCell ⟨g, i, none⟩ v) := Fr.of_set W _ v rfl
set_option maxHeartbeats 2000000 in
theorem grref_accept (g : Nat) (b : Bool) (l s : Nat) (hs : s < 4294967296) (hl : l < 4294967296) (w : World) (h : RefAt w g b l) :
    Calls Try.prog 15 #[.pointer (some ⟨g, 0, none⟩), .int .u32 (s : Int)] w fun e w' => e = .returned (.bool (gaccept b l s)) ∧ RefAt w' g true (if gaccept b l s then s else l) ∧ Fr (fun a => a.block = g) w w' := by
  have HO := Lib.hid h
  have HS := Lib.hid (And.intro ((h.set0 true).set1 s) ((fr_blk w g 0 (.bool true)).trans (fr_blk (w.setCell ⟨g, 0, none⟩ (.bool true)) g 1 (.int .u32 (s : Int)))))
  have HE : Hid (gaccept b l s = (!b || (decide (0 < gway s l) && decide (gway s l < 2147483648)))) := rfl
  have u1 : IntKind.u64.wrap (s : Int) = (s : Int) := by simp [IntKind.wrap, IntKind.bits, IntKind.signed]; omega
  have u2 : IntKind.u64.wrap (l : Int) = (l : Int) := by simp [IntKind.wrap, IntKind.bits, IntKind.signed]; omega
  have u3 : IntKind.u64.wrap ((s : Int) + 4294967296) = (s : Int) + 4294967296 := by simp [IntKind.wrap, IntKind.bits, IntKind.signed]; omega
  have u4 : IntKind.u64.wrap ((s : Int) + 4294967296 - (l : Int)) = (s : Int) + 4294967296 - (l : Int) := by simp [IntKind.wrap, IntKind.bits, IntKind.signed]; omega
  have hw : ((s : Int) + 4294967296 - (l : Int)) % 4294967296 = ((gway s l : Nat) : Int) := by unfold gway; omega
  have hg : gway s l < 4294967296 := by unfold gway; omega
  generalize gway s l = d at *
  obtain ⟨D, hD⟩ : ∃ D : Int, D = (d : Int) := ⟨_, rfl⟩
  rw [← hD] at hw
  have c0 := h.c0
  have c1 := h.c1
  have f0 := h.free 0
  have f1 := (h.set0 true).free 1
  have c1' := (h.set0 true).c1
  generalize hN : (if gaccept b l s then s else l) = N
  have HN := Lib.hid hN
  generalize gaccept b l s = R at *
  clear h hN
  have yes : R = true → s = N := fun e => by rw [← HN.out, e]; rfl
  have no : R = false → l = N := fun e => by rw [← HN.out, e]; rfl
  cases b
  · have hR : Hid (R = true) := HE.out
    have hsN := Lib.hid (yes hR.out)
    clear yes no HN HE
    by_cases h0 : d = 0
    · have q0 : (D == 0) = true := by rw [beq_iff_eq]; omega
      clear h0 hD hg
      go_enter Try.func15, Try.ntmps15
      go_wp2_with fail
      go_ret
      exact ⟨by rw [hR.out]; rfl, by rw [← hsN.out]; exact HS.out.1, HS.out.2⟩
    · have q0 : (D == 0) = false := by rw [beq_eq_false_iff_ne]; omega
      clear h0 hD hg
      go_enter Try.func15, Try.ntmps15
      go_wp2_with fail
      go_ret
      exact ⟨by rw [hR.out]; rfl, by rw [← hsN.out]; exact HS.out.1, HS.out.2⟩
  · by_cases h0 : d = 0
    · have q0 : (D == 0) = true := by rw [beq_iff_eq]; omega
      have hR : Hid (R = false) := by rw [HE.out, h0]; rfl
      have hlN := Lib.hid (no hR.out)
      clear h0 hD hg yes no HN HE
      go_enter Try.func15, Try.ntmps15
      go_wp2_with fail
      go_ret
      exact ⟨by rw [hR.out]; rfl, by rw [← hlN.out]; exact HO.out, Fr.refl _ _⟩
    · have q0 : (D == 0) = false := by rw [beq_eq_false_iff_ne]; omega
      by_cases h1 : d < 2147483648
      · have q1 : decide ((2147483647 : Int) < D) = false := decide_eq_false (by omega)
        have hR : Hid (R = true) := by rw [HE.out, decide_eq_true (show 0 < d by omega), decide_eq_true h1]; rfl
        have hsN := Lib.hid (yes hR.out)
        clear h0 h1 hD hg yes no HN HE
        go_enter Try.func15, Try.ntmps15
        go_wp2_with fail
        go_ret
        exact ⟨by rw [hR.out]; rfl, by rw [← hsN.out]; exact HS.out.1, HS.out.2⟩
      · have q1 : decide ((2147483647 : Int) < D) = true := decide_eq_true (by omega)
        have hR : Hid (R = false) := by rw [HE.out, decide_eq_false h1, Bool.and_false]; rfl
        have hlN := Lib.hid (no hR.out)
        clear h0 h1 hD hg yes no HN HE
        go_enter Try.func15, Try.ntmps15
        go_wp2_with fail
        go_ret
        exact ⟨by rw [hR.out]; rfl, by rw [← hlN.out]; exact HO.out, Fr.refl _ _⟩
/-- Both Orders. -/
structure OB (w : World) (ga gb : Nat) (b : Bool) (l : Nat) (b' : Bool) (l' : Nat) (W : World) : Prop where
  a : OrdAt W ga b l
  r : RefAt W gb b' l'
  old : Below w.heap.size w W
  la : w.heap.size ≤ ga
  lb : w.heap.size ≤ gb
  ne : ga ≠ gb
section
variable {w W : World} {ga gb : Nat} {b b' : Bool} {l l' s x : Nat} {R : Bool}
theorem OB.drew (h : OB w ga gb b l b' l' W) : OB w ga gb b l b' l' W.drew := ⟨⟨h.a.o⟩, ⟨h.r.o⟩, below_to h.old (below_drew W) h.old.size, h.la, h.lb, h.ne⟩
theorem OB.acc (h : OB w ga gb b l b' l' W) (hR : gaccept b l s = R) (hx : (if R then s else l) = x) (hs : s < 4294967296) (hl : l < 4294967296) :
    Calls Try.prog 14 #[.pointer (some ⟨ga, 0, none⟩), .int .u32 (s : Int)] W fun e w' => e = .returned (.bool R) ∧ OB w ga gb true x b' l' w' := by
  subst hR
  subst hx
  refine (graccept_any ga b l s hs hl W h.a).mono ?_
  rintro e w' ⟨rfl, h1, hf⟩
  exact ⟨rfl, h1, ⟨(hf.block gb h.r.lt (fun a ha e => h.ne (by rw [← ha, e]))).trans h.r.o⟩, below_blk h.old hf h.la h.old.size, h.la, h.lb, h.ne⟩
theorem OB.ref (h : OB w ga gb b l b' l' W) (hR : gaccept b' l' s = R) (hx : (if R then s else l') = x) (hs : s < 4294967296) (hl : l' < 4294967296) :
    Calls Try.prog 15 #[.pointer (some ⟨gb, 0, none⟩), .int .u32 (s : Int)] W fun e w' => e = .returned (.bool R) ∧ OB w ga gb b l true x w' := by
  subst hR
  subst hx
  refine (grref_accept gb b' l' s hs hl W h.r).mono ?_
  rintro e w' ⟨rfl, h1, hf⟩
  exact ⟨rfl, ⟨(hf.block ga h.a.lt (fun a ha e => h.ne (by rw [← ha, e]))).trans h.a.o⟩, h1, below_blk h.old hf h.lb h.old.size, h.la, h.lb, h.ne⟩
end
set_option maxRecDepth 100000 in
set_option maxHeartbeats 4000000 in
theorem grOrder_any (A : Option Addr) (ns : List Nat) (c : Nat) (w : World) (hnc : ns.length ≤ c) (hc : c ≤ 9223372036854775807) (hU : U32At w A ns) :
    Calls Try.prog 6 #[.slice A ns.length c] w fun e w' => e = .returned (.bool true) ∧ Below w.heap.size w w' := by
  have HU := Lib.hid hU
  obtain ⟨N, hN⟩ : ∃ N, N = ns.length := ⟨_, rfl⟩
  have HN := Lib.hid hN
  rw [← hN] at hnc ⊢
  clear hU hN
  have hN2 : N ≤ 9223372036854775807 := by omega
  go_enter Try.func6, Try.ntmps6
  go_wp2_with fail
  refine (grShown_any w).mono ?_
  rintro e w1 ⟨rfl, hb1⟩
  have H1 : Hid (OB w w1.heap.size (w1.heap.size + 1) false 0 false 0 ((w1.alloc (.cells #[.bool false, .int .u32 0] 42)).alloc (.cells #[.bool false, .int .u32 0] 45))) :=
    ⟨(OrdAt.below ⟨heap_alloc_new w1 (.cells #[.bool false, .int .u32 0] 42)⟩ ((Below.refl _ _).alloc (Nat.le_refl _) _)),
     ⟨by have h := heap_alloc_new (w1.alloc (.cells #[.bool false, .int .u32 0] 42)) (.cells #[.bool false, .int .u32 0] 45); rw [World.size_alloc] at h; exact h⟩,
     (hb1.alloc hb1.size _).alloc (by rw [World.size_alloc]; have := hb1.size; omega) _, hb1.size, by have := hb1.size; omega, by omega⟩
  clear hb1
  go_upto_region 4 with fail
  generalize (w1.alloc (.cells #[.bool false, .int .u32 0] 42)).alloc (.cells #[.bool false, .int .u32 0] 45) = W1 at *
  generalize w1.heap.size + 1 = gb at *
  generalize w1.heap.size = ga at *
  go_wp2_with fail
  go_loopw [6] (fun i wr => ∃ (k : Nat) (b : Bool) (l : Nat), k ≤ N ∧ i = .int .i64 (k : Int) ∧ l < 4294967296 ∧ OB w ga gb b l b l wr) (fun i _ => N - (intOf i).toNat)
  case atStart => exact ⟨0, false, 0, by omega, rfl, by decide, H1.out⟩
  case round =>
    obtain ⟨k, b, l, hk, rfl, hl, ho⟩ := hrel
    have HL := Lib.hid hl
    have HO := Lib.hid ho
    clear hl ho H1
    by_cases hlt : k < N
    · by_cases h200 : k < 200
      · obtain ⟨x, hx⟩ : ∃ x, ns[k]? = some x := ⟨ns[k]'(by have := HN.out; omega), List.getElem?_eq_getElem _⟩
        obtain ⟨gl, o, rfl, hcx, hxl⟩ := HU.out k x hx
        have HX := Lib.hid (And.intro hcx hxl)
        have HXX : Hid (∀ W, Below w.heap.size w W → W.cell? ⟨gl, o + k, none⟩ = some (.int .u32 (x : Int))) := fun W hW => (hW.cell (World.block_lt_of_cell? w _ HX.out.1)).trans HX.out.1
        obtain ⟨r, hr⟩ : ∃ r, gaccept b l x = r := ⟨_, rfl⟩
        obtain ⟨l', hl'⟩ : ∃ l', (if r then x else l) = l' := ⟨_, rfl⟩
        have HR := Lib.hid (And.intro hr hl')
        have HLL : Hid (l' < 4294967296) := by
          show l' < _
          rw [← hl']
          split
          · exact hxl
          · exact HL.out
        have HOd := Lib.hid HO.out.drew
        clear hx hcx hxl hr hl'
        go_upto_region 7 with fail
        have XA := Lib.hid (HOd.out.acc HR.out.1 HR.out.2 HX.out.2 HL.out)
        have XB := Lib.hid (HOd.out.ref HR.out.1 HR.out.2 HX.out.2 HL.out)
        go_region_held_law (fun W' => W'.cell? ⟨gl, o + k, none⟩ = some (.int .u32 (x : Int)))
          (first | assumption | exact HXX.out _ HOd.out.old | exact HXX.out _ H2.out.old | exact HXX.out _ H3.out.old | exact HXX.out _ H4.out.old | exact HXX.out _ H5.out.old)
          (first
            | (go_at_call 14; (with_reducible refine XA.out.mono ?_); rintro e w2 ⟨rfl, h2⟩; (have H2 := Lib.hid h2); clear h2)
            | (go_at_call 15; (with_reducible refine XB.out.mono ?_); rintro e w3 ⟨rfl, h3⟩; (have H3 := Lib.hid h3); clear h3)
            | (go_at_call 15; (with_reducible refine (H2.out.ref HR.out.1 HR.out.2 HX.out.2 HL.out).mono ?_); rintro e w4 ⟨rfl, h4⟩; (have H4 := Lib.hid h4); clear h4)
            | (go_at_call 14; (with_reducible refine (H3.out.acc HR.out.1 HR.out.2 HX.out.2 HL.out).mono ?_); rintro e w5 ⟨rfl, h5⟩; (have H5 := Lib.hid h5); clear h5))
        all_goals
          have q : (r != r) = false := by cases r <;> rfl
          go_wp2_with fail
          first
            | exact ⟨⟨k + 1, true, l', by omega, by go_num, HLL.out, H4.out⟩, by simp [intOf]; omega⟩
            | exact ⟨⟨k + 1, true, l', by omega, by go_num, HLL.out, H5.out⟩, by simp [intOf]; omega⟩
      · go_wp2_with fail
        go_ret
        exact ⟨rfl, HO.out.old⟩
    · go_wp2_with fail
      go_ret
      exact ⟨rfl, HO.out.old⟩
end Go.Proofs.Ytjnhfabgdegngaa
