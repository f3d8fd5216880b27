/-
  What is proved: the law GreOnce answers true for any numbers, and leaves all older memory as it was.
  Conditions: the slice is of fewer than 2^63 numbers.
-/
import Derived.Test.YtjnhfabgdegngaaGrShown
import Derived.Test.YtjnhfabgdegngaaGrLift
namespace Go.Proofs.Ytjnhfabgdegngaa
open Go.RowKit

theorem gway_self (s : Nat) : gway s s = 0 := by unfold gway; omega
theorem gaccept_same (s : Nat) : gaccept true s s = false := by unfold gaccept gahead; rw [gway_self]; rfl
theorem gaccept_back (s : Nat) (hs : s < 4294967296) : gaccept true s ((s + 4294967295) % 4294967296) = false := by
  have e : gway ((s + 4294967295) % 4294967296) s = 4294967295 := by unfold gway; omega
  unfold gaccept gahead
  rw [e]
  rfl
theorem gaccept_next (s : Nat) (hs : s < 4294967296) : gaccept true s ((s + 1) % 4294967296) = true := by
  have e : gway ((s + 1) % 4294967296) s = 1 := by unfold gway; omega
  unfold gaccept gahead
  rw [e]
  rfl
/-- Accept, at any world. -/
theorem gracc (g : Nat) (b : Bool) (l s : Nat) (z : Int) (r : Bool) (l' : Nat) (hz : z = (s : Int)) (hr : gaccept b l s = r) (hl' : (if r then s else l) = l') (hs : s < 4294967296) (hl : l < 4294967296) (W : World) (h : OrdAt W g b l) :
    Calls Try.prog 14 #[.pointer (some ⟨g, 0, none⟩), .int .u32 z] W fun e w' => e = .returned (.bool r) ∧ OrdAt w' g true l' ∧ Fr (fun a => a.block = g) W w' := by
  subst hz
  subst hr
  subst hl'
  exact graccept_any g b l s hs hl W h
set_option maxRecDepth 100000 in
set_option maxHeartbeats 4000000 in
theorem grOnce_any (A : Option Addr) (ns : List Nat) (c : Nat) (w : World) (hnc : ns.length ≤ c) (hc : c ≤ 9223372036854775807) (hU : U32At w A ns) :
    Calls Try.prog 7 #[.slice A ns.length c] w fun e w' => e = .returned (.bool true) ∧ Below w.heap.size w w' := by
  have HU := Lib.hid hU
  obtain ⟨N, hN⟩ : ∃ N, N = ns.length := ⟨_, rfl⟩
  have HN := Lib.hid hN
  rw [← hN] at hnc ⊢
  clear hU hN
  have hN2 : N ≤ 9223372036854775807 := by omega
  go_enter Try.func7, Try.ntmps7
  go_wp2_with fail
  refine (grShown_any w).mono ?_
  rintro e w1 ⟨rfl, hb1⟩
  have H1 : Hid (OrdAt (w1.alloc (.cells #[.bool false, .int .u32 0] 42)) w1.heap.size false 0) := ⟨heap_alloc_new _ _⟩
  have HB1 := Lib.hid (hb1.alloc hb1.size (.cells #[.bool false, .int .u32 0] 42))
  have HG : Hid (w.heap.size ≤ w1.heap.size) := hb1.size
  clear hb1
  go_upto_region 3 with fail
  generalize w1.alloc (.cells #[.bool false, .int .u32 0] 42) = W1 at *
  generalize w1.heap.size = g at *
  go_wp2_with fail
  go_loopw [5] (fun i wr => ∃ (k : Nat) (b : Bool) (l : Nat), k ≤ N ∧ i = .int .i64 (k : Int) ∧ (k = 0 → b = false) ∧ l < 4294967296 ∧ OrdAt wr g b l ∧ Below w.heap.size w wr) (fun i _ => N - (intOf i).toNat)
  case atStart => exact ⟨0, false, 0, by omega, rfl, fun _ => rfl, by decide, H1.out, HB1.out⟩
  case round =>
    obtain ⟨k, b, l, hk, rfl, hb0, hl, ho, hB⟩ := hrel
    have HB0 := Lib.hid hb0
    have HL := Lib.hid hl
    have HO := Lib.hid ho
    have HB := Lib.hid hB
    clear hb0 hl ho hB H1 HB1
    by_cases hlt : k < N
    · by_cases h200 : k < 200
      · obtain ⟨x, hx⟩ : ∃ x, ns[k]? = some x := ⟨ns[k]'(by have := HN.out; omega), List.getElem?_eq_getElem _⟩
        obtain ⟨gl, o, rfl, hcx, hxl⟩ := HU.out k x hx
        have HX := Lib.hid (And.intro hcx hxl)
        have HXX : Hid (∀ W, Below w.heap.size w W → W.cell? ⟨gl, o + k, none⟩ = some (.int .u32 (x : Int))) := fun W hW => (hW.cell (World.block_lt_of_cell? w _ HX.out.1)).trans HX.out.1
        have cx := HXX.out wr HB.out
        obtain ⟨r, hr⟩ : ∃ r, gaccept b l x = r := ⟨_, rfl⟩
        obtain ⟨l', hl'⟩ : ∃ l', (if r then x else l) = l' := ⟨_, rfl⟩
        have HA := Lib.hid (gracc g b l x (x : Int) r l' rfl hr hl' hxl HL.out wr HO.out)
        have HR := Lib.hid (And.intro hr hl')
        clear hx hcx hxl hr hl'
        go_wp2_with fail
        refine HA.out.mono ?_
        rintro e w2 ⟨rfl, h2, hf2⟩
        have HO2 := Lib.hid h2
        have HB2 := Lib.hid (below_blk HB.out hf2 HG.out HB.out.size)
        have cx2 := HXX.out w2 HB2.out
        clear h2 hf2 HA cx
        cases r
        · have hb : b = true := by
            have := HR.out.1
            cases b
            · cases this
            · rfl
          have hk0 : k ≠ 0 := fun e => by have := HB0.out e; rw [hb] at this; cases this
          have q0 : ((k : Int) == 0) = false := by rw [beq_eq_false_iff_ne]; omega
          have HL' : Hid (l = l') := HR.out.2
          clear hb hk0
          go_wp2_with fail
          exact ⟨⟨k + 1, true, l', by omega, by go_num, fun e => by omega, by rw [← HL'.out]; exact HL.out, HO2.out, HB2.out⟩, by simp [intOf]; omega⟩
        · have HL' : Hid (x = l') := HR.out.2
          have hxl := HX.out.2
          rw [← HL'.out] at HO2
          have HA3 := Lib.hid (gracc g true x x (x : Int) false x rfl (gaccept_same x) rfl hxl hxl w2 HO2.out)
          have hw1 : IntKind.u32.wrap ((x : Int) - 1) = (((x + 4294967295) % 4294967296 : Nat) : Int) := by rw [IntKind.wrap_u32']; omega
          have hw2 : IntKind.u32.wrap ((x : Int) + 1) = (((x + 1) % 4294967296 : Nat) : Int) := by rw [IntKind.wrap_u32']; omega
          obtain ⟨z1, hz1⟩ : ∃ z : Int, z = (((x + 4294967295) % 4294967296 : Nat) : Int) := ⟨_, rfl⟩
          obtain ⟨z2, hz2⟩ : ∃ z : Int, z = (((x + 1) % 4294967296 : Nat) : Int) := ⟨_, rfl⟩
          rw [← hz1] at hw1
          rw [← hz2] at hw2
          have HA4 : Hid (∀ W, OrdAt W g true x → _) := fun W h => gracc g true x ((x + 4294967295) % 4294967296) z1 false x hz1 (gaccept_back x hxl) rfl (by omega) hxl W h
          have HA5 : Hid (∀ W, OrdAt W g true x → _) := fun W h => gracc g true x ((x + 1) % 4294967296) z2 true ((x + 1) % 4294967296) hz2 (gaccept_next x hxl) rfl (by omega) hxl W h
          clear hz1 hz2 hxl HL' HR HB0
          go_wp2_with fail
          refine HA3.out.mono ?_
          rintro e w3 ⟨rfl, h3, hf3⟩
          have HO3 := Lib.hid h3
          have HB3 := Lib.hid (below_blk HB2.out hf3 HG.out HB2.out.size)
          have cx3 := HXX.out w3 HB3.out
          clear h3 hf3 HA3 cx2 HB2 HO2
          go_wp2_with fail
          refine (HA4.out w3 HO3.out).mono ?_
          rintro e w4 ⟨rfl, h4, hf4⟩
          have HO4 := Lib.hid h4
          have HB4 := Lib.hid (below_blk HB3.out hf4 HG.out HB3.out.size)
          have cx4 := HXX.out w4 HB4.out
          clear h4 hf4 HA4 cx3 HB3 HO3
          go_wp2_with fail
          refine (HA5.out w4 HO4.out).mono ?_
          rintro e w5 ⟨rfl, h5, hf5⟩
          have HO5 := Lib.hid h5
          have HB5 := Lib.hid (below_blk HB4.out hf5 HG.out HB4.out.size)
          clear h5 hf5 HA5 cx4 HB4 HO4
          go_wp2_with fail
          exact ⟨⟨k + 1, true, (x + 1) % 4294967296, by omega, by go_num, fun e => by omega, by omega, HO5.out, HB5.out⟩, by simp [intOf]; omega⟩
      · go_wp2_with fail
        go_ret
        exact ⟨rfl, HB.out⟩
    · go_wp2_with fail
      go_ret
      exact ⟨rfl, HB.out⟩
end Go.Proofs.Ytjnhfabgdegngaa
