/-
  What is proved: (*route.Table).Find by contract: the route with the most bits that covers an address.
  Conditions: the address fits its type.
-/
import Derived.Test.YtimpellpfnmicaaRtDel
namespace Go.Proofs.Ytimpellpfnmicaa
open Go.RowKit

/-- Of the prefixes of an address with fewer than so many bits the longest that is there. -/
def fnd (L : List Rt) (x : Int) : Nat → Option Rt
  | 0 => none
  | k + 1 => match look L (cutI x k) k with
    | some r => some r
    | none => fnd L x k
theorem fnd_some {L : List Rt} {x : Int} {k : Nat} {r : Rt} (h : fnd L x k = some r) : r ∈ L ∧ 0 ≤ r.b ∧ r.b < k ∧ r.d = cutI x r.b ∧ ∀ s ∈ L, s.d = cutI x s.b → s.b < k → s.b ≤ r.b := by
  induction k with
  | zero => cases h
  | succ k ih =>
    unfold fnd at h
    split at h
    · rename_i s hs
      cases h
      obtain ⟨h1, h2, h3⟩ := look_some hs
      exact ⟨h1, by omega, by omega, by rw [h3]; exact h2, fun t _ _ ht => by omega⟩
    · rename_i hs
      obtain ⟨h1, h2, h3, h4, h5⟩ := ih h
      refine ⟨h1, h2, by omega, h4, fun t ht hc hk => ?_⟩
      by_cases e : t.b = k
      · exact absurd ⟨by rw [hc, e], e⟩ (look_none.1 hs t ht)
      · exact h5 t ht hc (by omega)
theorem fnd_none {L : List Rt} {x : Int} {k : Nat} (h : fnd L x k = none) : ∀ s ∈ L, s.d = cutI x s.b → 0 ≤ s.b → s.b < k → False := by
  induction k with
  | zero => intro s _ _ h0 h1; omega
  | succ k ih =>
    unfold fnd at h
    split at h
    · cases h
    · rename_i hs
      intro t ht hc h0 hk
      by_cases e : t.b = k
      · exact absurd ⟨by rw [hc, e], e⟩ (look_none.1 hs t ht)
      · exact ih h t ht hc h0 (by omega)

theorem rtSize : (Try.prog.info? 33).map (·.size) = some 4 := by kernel_rfl
theorem rtRow_one (a b c d : Int) : (#[Value.int .u32 a, .int .i64 b, .int .u32 c, .int .i64 d] : Array Value).all (·.oneCell') = true := by simp [Value.oneCell']

set_option maxRecDepth 100000 in
set_option maxHeartbeats 2000000 in
theorem find_any (L : List Rt) (x : Int) (hx : U32 x) (p b : Nat) (w : World) (h : Tab w p b L) :
    Calls Try.prog 15 #[.pointer (some ⟨p, 0, none⟩), .int .u32 x] w fun e w' => e = .returned (.tuple #[((fnd L x 33).getD Rt.zero).val, .bool (fnd L x 33).isSome]) ∧ Below w.heap.size w w' := by
  obtain ⟨F, hF⟩ : ∃ F, fnd L x 33 = F := ⟨_, rfl⟩
  rw [hF]
  have HF := Lib.hid hF
  have HT := Lib.hid h
  have HX := Lib.hid hx
  clear hF h hx
  go_enter Try.func15, Try.ntmps15
  go_wp2_with fail
  have hB1 := Lib.hid ((Below.refl _ w).alloc (Nat.le_refl _) (Obj.cells #[Value.int IntKind.u32 0, Value.int IntKind.i64 0, Value.int IntKind.u32 0, Value.int IntKind.i64 0] 33))
  have hR1 := Lib.hid (heap_alloc_new w (Obj.cells #[Value.int IntKind.u32 0, Value.int IntKind.i64 0, Value.int IntKind.u32 0, Value.int IntKind.i64 0] 33))
  generalize w.alloc (Obj.cells #[Value.int IntKind.u32 0, Value.int IntKind.i64 0, Value.int IntKind.u32 0, Value.int IntKind.i64 0] 33) = w1 at hB1 hR1 ⊢
  obtain ⟨R, hR⟩ : ∃ R, w.heap.size = R := ⟨_, rfl⟩
  have HR := Lib.hid hR
  rw [hR] at hB1 hR1 ⊢
  clear hR
  go_loopw [6] (fun s6 wr => ∃ (k : Nat) (z : Int), s6 = .int .i64 z ∧ z = (k : Int) - 1 ∧ k ≤ 33 ∧ fnd L x k = F ∧ Below w1.heap.size w1 wr) (fun s6 _ => (intOf s6 + 1).toNat)
  case atStart => exact ⟨33, 32, rfl, rfl, Nat.le_refl _, HF.out, Below.refl _ _⟩
  case round =>
    obtain ⟨k, z, rfl, hz, hk, hfk, hbr⟩ := hrel
    have HBr := Lib.hid (below_to hB1.out hbr (HR.out ▸ hB1.out.size))
    have HTr := Lib.hid (HT.out.below (HR.out ▸ HBr.out))
    have HRr : Hid (wr.heap[R]? = some (Obj.cells #[Value.int IntKind.u32 0, Value.int IntKind.i64 0, Value.int IntKind.u32 0, Value.int IntKind.i64 0] 33)) := Lib.hid ((hbr.block R (by have := (Array.getElem?_eq_some_iff.1 hR1.out).1; omega)).trans hR1.out)
    have Hbr := Lib.hid hbr
    have Hfk := Lib.hid hfk
    clear hbr hfk
    cases k with
    | zero =>
      obtain rfl : z = -1 := by omega
      clear hz hk
      have hF : F = none := Hfk.out.symm
      subst hF
      go_wp2_with (refine wpList_store_row rfl 33 (.tmp 4) (.tmp 28) rfl R #[.int .u32 0, .int .i64 0, .int .u32 0, .int .i64 0] rfl rfl 33 _ HRr.out rtSize rfl (rtRow_one _ _ _ _) ?_)
      go_wp2_with fail
      (try simp only [Exit.inBlock, Exit.then])
      refine bodyPost_ret (results_cell_tmp_row rfl _ _ R _ #[.int .u32 0, .int .i64 0, .int .u32 0, .int .i64 0] (0, 0) _ rfl (setRow_heap _ _ _ _ _ _ HRr.out) Try.underlying33 rfl rtSize) rfl ?_
      refine ⟨rfl, ?_⟩
      rw [HR.out]
      exact below_setRow HBr.out (Nat.le_refl _) _
    | succ k =>
      obtain rfl : z = (k : Int) := by omega
      obtain ⟨y, hy⟩ : ∃ y, cutI x k = y := ⟨_, rfl⟩
      have hcut := Lib.hid (fun W => cut_any x k HX.out W)
      rw [hy] at hcut
      have Hy := Lib.hid hy
      obtain ⟨q, hq⟩ : ∃ q : Rt, (look L y k).getD Rt.zero = q := ⟨_, rfl⟩
      obtain ⟨is, his⟩ : ∃ is : Bool, (look L y k).isSome = is := ⟨_, rfl⟩
      have KS : Hid (∀ W', Below wr.heap.size wr W' → W'.cell? ⟨p, 0, none⟩ = some (.map (some b)) ∧ (Instr.lookup 56 (.map (some b)) (.agg #[.int .u32 y, .int .i64 (k : Int)]) true).run Try.prog W' = .ok (.tuple #[.agg #[.int .u32 q.d, .int .i64 q.b, .int .u32 q.v, .int .i64 q.o], .bool is]) W') := fun W' hW => by
        have t := HTr.out.below hW
        have l := t.asked (hy ▸ cut_u32 HX.out k) (show I64 (k : Int) from ⟨by omega, by omega⟩)
        rw [hq, his] at l
        exact ⟨t.cell, l⟩
      have Hq := Lib.hid hq
      have His := Lib.hid his
      have Hk := Lib.hid hk
      clear hq his hy hk hz
      obtain ⟨z, hz⟩ : ∃ z : Int, (k : Int) = z := ⟨_, rfl⟩
      have Hz := Lib.hid hz
      rw [hz] at KS hcut ⊢
      have hz0 : 0 ≤ z := by omega
      have hz1 : z ≤ 32 := by have := Hk.out; omega
      clear hz
      go_upto_region 4 with fail
      go_region_held_law (fun W' => W'.cell? ⟨p, 0, none⟩ = some (.map (some b)) ∧ (Instr.lookup 56 (.map (some b)) (.agg #[.int .u32 y, .int .i64 z]) true).run Try.prog W' = .ok (.tuple #[.agg #[.int .u32 q.d, .int .i64 q.b, .int .u32 q.v, .int .i64 q.o], .bool is]) W')
        (first | assumption | exact KS.out _ (below_dN (Below.refl _ wr) 1) | exact KS.out _ (below_al (below_dN (Below.refl _ wr) 1) _) | exact KS.out _ (Below.refl _ wr))
        (first | (go_at_call 19; refine (hcut.out _).mono ?_; rintro e w1 ⟨rfl, rfl⟩))
      all_goals
        clear KS
        have hB2 := Lib.hid (below_dN (HBr.out.alloc (HR.out ▸ HBr.out.size) (Obj.cells #[Value.int IntKind.u32 q.d, Value.int IntKind.i64 q.b, Value.int IntKind.u32 q.v, Value.int IntKind.i64 q.o] 33)) 1)
        have hB3 := Lib.hid (below_dN ((Below.refl _ wr).alloc (Nat.le_refl _) (Obj.cells #[Value.int IntKind.u32 q.d, Value.int IntKind.i64 q.b, Value.int IntKind.u32 q.v, Value.int IntKind.i64 q.o] 33)) 1)
        have hA2 := Lib.hid (RtAt.new wr q)
        unfold Rt.obj at hA2
        have hA3 := Lib.hid (hA2.out.drewN 1)
        change Hid (Below _ _ (World.drew _)) at hB2 hB3
        change Hid (RtAt (World.drew _) _ _) at hA3
        generalize (wr.alloc (Obj.cells #[Value.int IntKind.u32 q.d, Value.int IntKind.i64 q.b, Value.int IntKind.u32 q.v, Value.int IntKind.i64 q.o] 33)).drew = w3 at hB2 hB3 hA3 ⊢
        clear hA2
        obtain ⟨X, hX⟩ : ∃ X, wr.heap.size = X := ⟨_, rfl⟩
        have hlt := (Array.getElem?_eq_some_iff.1 HRr.out).1
        rw [hX] at hA3 hlt ⊢
        have HX3 := Lib.hid hX
        clear hX
        have HR3 : Hid (w3.heap[R]? = some (Obj.cells #[Value.int IntKind.u32 0, Value.int IntKind.i64 0, Value.int IntKind.u32 0, Value.int IntKind.i64 0] 33)) := Lib.hid ((hB3.out.block R (by rw [HX3.out]; exact hlt)).trans HRr.out)
        cases is with
        | true =>
          obtain ⟨c0, c1, c2, c3⟩ := hA3.out
          have hF : F = some q := by
            rw [← Hfk.out]
            unfold fnd
            rw [Hy.out]
            have h1 := His.out
            have h2 := Hq.out
            rw [Hz.out] at h1 h2 ⊢
            cases hl : look L y z with
            | none => rw [hl] at h1; cases h1
            | some r => rw [hl] at h2; simp only [Option.getD_some] at h2; rw [h2]
          subst hF
          go_wp2_with (refine wpList_store_row rfl 33 (.tmp 4) (.tmp 27) rfl R #[Value.int IntKind.u32 q.d, Value.int IntKind.i64 q.b, Value.int IntKind.u32 q.v, Value.int IntKind.i64 q.o] rfl rfl 33 _ HR3.out rtSize rfl (rtRow_one _ _ _ _) ?_)
          go_wp2_with fail
          (try simp only [Exit.inBlock, Exit.then])
          refine bodyPost_ret (results_cell_tmp_row rfl _ _ R _ #[Value.int IntKind.u32 q.d, Value.int IntKind.i64 q.b, Value.int IntKind.u32 q.v, Value.int IntKind.i64 q.o] (0, 0) _ rfl (setRow_heap _ _ _ _ _ _ HR3.out) Try.underlying33 rfl rtSize) rfl ?_
          refine ⟨rfl, ?_⟩
          rw [HR.out]
          exact below_setRow hB2.out (Nat.le_refl _) _
        | false =>
          go_wp2_with fail
          go_roundw
          case rel =>
            refine ⟨k, z - 1, (by go_num), (by rw [Hz.out]), (by have := Hk.out; omega), ?_, below_to Hbr.out hB3.out Hbr.out.size⟩
            rw [← Hfk.out]
            conv => rhs; unfold fnd
            rw [Hy.out]
            have h1 := His.out
            rw [Hz.out] at h1 ⊢
            cases hl : look L y z with
            | none => rfl
            | some r => rw [hl] at h1; cases h1
          case measure => simp only [intOf]; omega
end Go.Proofs.Ytimpellpfnmicaa
