/-
  What is proved: layer 8's 'does' (a step of the laws) by contract.
  Conditions: the step's numbers fit their types.
-/
import Derived.Test.YtimpellpfnmicaaRtShown
import Derived.Test.YtimpellpfnmicaaRtLift
namespace Go.Proofs.Ytimpellpfnmicaa
open Go.RowKit

def Rt.cutr (r : Rt) : Rt := ⟨cutI r.d r.b, r.b, r.v, r.o⟩
theorem Rt.In.cutr {r : Rt} (h : r.In) : r.cutr.In := ⟨cut_u32 h.d _, h.b, h.v, h.o⟩
def stepL (L : List Rt) (s : Stp) : List Rt := if s.k = 0 ∨ s.k = 1 then addL L s.r else if s.k = 2 then addL L s.r.cutr else if s.k = 3 then delL L s.r.d s.r.b else L
def stepC (L : List Rt) (s : Stp) : Int := if s.k = 0 ∨ s.k = 1 then addCode L s.r else if s.k = 2 then addCode L s.r.cutr else if s.k = 3 then delCode L s.r.d s.r.b else 0

set_option maxRecDepth 100000 in
set_option maxHeartbeats 4000000 in
theorem does_any (L : List Rt) (s : Stp) (hs : s.In) (p b : Nat) (w : World) (h : Tab w p b L) :
    Calls Try.prog 14 #[.pointer (some ⟨p, 0, none⟩), .agg #[.int .i64 s.k, .int .u32 s.r.d, .int .i64 s.r.b, .int .u32 s.r.v, .int .i64 s.r.o, .int .u32 s.x]] w fun e w' => e = .returned (.int .i64 (stepC L s)) ∧ Tab w' p b (stepL L s) ∧ w.grownBy w' (some b) := by
  obtain ⟨k, r, x⟩ := s
  have hr := hs.r
  simp only at hr ⊢
  clear hs
  have HA := Lib.hid (fun W hW => add_any L r hr p b W (h.below hW))
  have HA2 := Lib.hid (fun W hW => add_any L r.cutr hr.cutr p b W (h.below hW))
  have HD := Lib.hid (fun W hW => del_any L r.d r.b hr.d hr.b p b W (h.below hW))
  have HC := Lib.hid (fun W => cut_any r.d r.b hr.d W)
  have HT := Lib.hid h
  unfold Rt.val at HA HA2
  unfold Rt.cutr at HA2
  simp only at HA2
  obtain ⟨cc, hcc⟩ : ∃ c, stepC L ⟨k, r, x⟩ = c := ⟨_, rfl⟩
  obtain ⟨L', hL'⟩ : ∃ l, stepL L ⟨k, r, x⟩ = l := ⟨_, rfl⟩
  rw [hcc, hL']
  unfold stepC at hcc
  unfold stepL at hL'
  simp only at hcc hL'
  have H6 := Lib.hid (Below.refl w.heap.size w)
  clear h hr
  have HW := Lib.hid ((Below.refl _ w).alloc (Nat.le_refl _) (Obj.cells #[Value.int IntKind.i64 k, Value.int IntKind.u32 r.d, Value.int IntKind.i64 r.b, Value.int IntKind.u32 r.v, Value.int IntKind.i64 r.o, Value.int IntKind.u32 x] 35))
  by_cases h0 : k = 0
  · subst h0
    rw [if_pos (Or.inl rfl)] at hcc hL'
    subst hcc hL'
    go_enter Try.func14, Try.ntmps14
    go_wp2_with (go_at_call 20; (with_reducible refine (HA.out _ HW.out).mono ?_); rintro e w2 ⟨rfl, hT, hG⟩; (have T2 := Lib.hid hT); (have G2 := Lib.hid hG); clear hT hG)
    go_ret
    exact ⟨rfl, T2.out, grown_trans (grown_of_below HW.out _) G2.out⟩
  · by_cases h1 : k = 1
    · subst h1
      rw [if_pos (Or.inr rfl)] at hcc hL'
      subst hcc hL'
      go_enter Try.func14, Try.ntmps14
      go_wp2_with (go_at_call 20; (with_reducible refine (HA.out _ HW.out).mono ?_); rintro e w2 ⟨rfl, hT, hG⟩; (have T2 := Lib.hid hT); (have G2 := Lib.hid hG); clear hT hG)
      go_ret
      exact ⟨rfl, T2.out, grown_trans (grown_of_below HW.out _) G2.out⟩
    · have h01 : ¬ (k = 0 ∨ k = 1) := fun h => h.elim h0 h1
      rw [if_neg h01] at hcc hL'
      by_cases h2 : k = 2
      · subst h2
        rw [if_pos rfl] at hcc hL'
        subst hcc hL'
        clear h0 h1 h01
        go_enter Try.func14, Try.ntmps14
        go_upto_region 7 with (go_at_call 19; (with_reducible refine (HC.out _).mono ?_); rintro e w1 ⟨rfl, rfl⟩)
        have HW2 := Lib.hid ((Below.refl _ w).alloc (Nat.le_refl _) (Obj.cells #[Value.int IntKind.i64 2, Value.int IntKind.u32 (cutI r.d r.b), Value.int IntKind.i64 r.b, Value.int IntKind.u32 r.v, Value.int IntKind.i64 r.o, Value.int IntKind.u32 x] 35))
        go_wp2_with (go_at_call 20; (with_reducible refine (HA2.out _ HW2.out).mono ?_); rintro e w2 ⟨rfl, hT, hG⟩; (have T2 := Lib.hid hT); (have G2 := Lib.hid hG); clear hT hG)
        go_ret
        exact ⟨rfl, T2.out, grown_trans (grown_of_below HW2.out _) G2.out⟩
      · rw [if_neg h2] at hcc hL'
        by_cases h3 : k = 3
        · subst h3
          rw [if_pos rfl] at hcc hL'
          subst hcc hL'
          clear h0 h1 h01 h2
          go_enter Try.func14, Try.ntmps14
          go_wp2_with (go_at_call 21; (with_reducible refine (HD.out _ HW.out).mono ?_); rintro e w2 ⟨rfl, hT, hG⟩; (have T2 := Lib.hid hT); (have G2 := Lib.hid hG); clear hT hG)
          go_ret
          exact ⟨rfl, T2.out, grown_trans (grown_of_below HW.out _) G2.out⟩
        · rw [if_neg h3] at hcc hL'
          subst hcc hL'
          have q0 : (k == 0) = false := by simp [h0]
          have q1 : (k == 1) = false := by simp [h1]
          have q2 : (k == 2) = false := by simp [h2]
          have q3 : (k == 3) = false := by simp [h3]
          clear h0 h1 h01 h2 h3
          go_enter Try.func14, Try.ntmps14
          go_wp2_with fail
          go_ret
          exact ⟨rfl, HT.out.below HW.out, grown_of_below HW.out _⟩
end Go.Proofs.Ytimpellpfnmicaa
