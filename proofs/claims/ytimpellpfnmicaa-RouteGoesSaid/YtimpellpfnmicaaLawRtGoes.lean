/-
  What is proved: RouteGoes by contract: the law returns true, and older memory is as it was.
  Conditions: the address fits its type.
-/
import Derived.Test.YtimpellpfnmicaaRtGone
namespace Go.Proofs.Ytimpellpfnmicaa
open Go.RowKit

set_option maxRecDepth 100000 in
set_option maxHeartbeats 4000000 in
theorem routeGoes_con (A : Option Addr) (M c : Nat) (n1 x : Int) (w : World) (hMc : M ≤ c) (hc : c ≤ 9223372036854775807) (hS : StepsAt w A M) (hx : U32 x) :
    Calls Try.prog 7 #[.slice A M c, .int .i64 n1, .int .u32 x] w fun e w' => e = .returned (.bool true) ∧ Below w.heap.size w w' := by
  have X0 := Lib.hid (fun W => shown_any W)
  have HN := Lib.hid (fun W => new_any W)
  have Hx := Lib.hid hx
  have HS := Lib.hid hS
  have hM : M ≤ 9223372036854775807 := by omega
  clear hx hS hMc hc
  go_enter Try.func7, Try.ntmps7
  go_upto_block 0 with (first
    | (go_at_call 9; refine (X0.out _).mono ?_; rintro e w1 ⟨rfl, hB⟩; (have B1 := Lib.hid hB); clear hB)
    | (go_at_call 10; refine (HN.out _).mono ?_; rintro e w2 ⟨p, q, rfl, hT, hp, hq, hB⟩; (have T0 := Lib.hid hT); (have B0 := Lib.hid hB); (have P0 := Lib.hid (And.intro hp hq)); clear hT hB hp hq))
  have B2 := Lib.hid (below_to B1.out B0.out B1.out.size)
  have Q0 : Hid (w.heap.size ≤ q) := Lib.hid (Nat.le_trans B1.out.size P0.out.2)
  go_cut [9] (fun _ wx => Stepped w wx p q)
  case first =>
    go_wp2_with fail
    go_loopw [9] (fun s9 wr => ∃ k : Nat, s9 = .int .i64 (k : Int) ∧ k ≤ M ∧ Stepped w wr p q) (fun s9 _ => M - (intOf s9).toNat)
    case atStart => exact ⟨0, rfl, Nat.zero_le _, ⟨_, T0.out⟩, B2.out⟩
    case round =>
      obtain ⟨k, rfl, hk, hSt⟩ := hrel
      obtain ⟨⟨L, hT⟩, hB⟩ := hSt
      have HT := Lib.hid hT
      have HB := Lib.hid hB
      clear hT hB
      by_cases hlt : k < M
      · have q1 : decide ((k : Int) < (M : Int)) = true := decide_eq_true (by omega)
        by_cases h2 : k < 100
        · obtain ⟨g, o, s, rfl, hs, c0, c1, c2, c3, c4, c5⟩ := (HS.out.below HB.out) k hlt
          have HD := Lib.hid (does_any L s hs p q wr HT.out)
          have q2 : decide ((k : Int) < 100) = true := decide_eq_true (by omega)
          go_wp2_with (go_at_call 14; refine HD.out.mono ?_; rintro e w3 ⟨rfl, hT, hG⟩; (have T3 := Lib.hid hT); (have G3 := Lib.hid hG); clear hT hG)
          exact ⟨⟨k + 1, by simp, by omega, ⟨_, T3.out⟩, below_grown HB.out HB.out.size G3.out Q0.out⟩, by simp [intOf]; omega⟩
        · have q2 : decide ((k : Int) < 100) = false := decide_eq_false (by omega)
          go_wp2_with fail
          go_meet
          case rel => exact ⟨⟨_, HT.out⟩, HB.out⟩
      · have q1 : decide ((k : Int) < (M : Int)) = false := decide_eq_false (by omega)
        go_wp2_with fail
        go_meet
        case rel => exact ⟨⟨_, HT.out⟩, HB.out⟩
  case rest =>
    obtain ⟨⟨L, hT⟩, hB⟩ := hcut
    have HT := Lib.hid hT
    have HB := Lib.hid hB
    clear hT hB B2 T0 B1 B0 P0
    have FL := Lib.hid (list_any L p q wc HT.out)
    have HF := HT.out.few
    by_cases hL : L = []
    · have h0 : ((L.length : Int) == 0) = true := by rw [hL]; rfl
      go_wp2_with (go_at_call 17; refine FL.out.mono ?_; rintro e w5 ⟨A2, c2, rfl, hl1, hl2, hl3, _, hB⟩; (have E5 := Lib.hid hB); clear hB hl3)
      go_ret
      exact ⟨rfl, below_to HB.out E5.out HB.out.size⟩
    · have hpos : 0 < L.length := List.length_pos_iff.2 hL
      have h0 : ((L.length : Int) == 0) = false := by rw [beq_eq_false_iff_ne]; omega
      obtain ⟨a, ha⟩ : ∃ a, bits .and .i64 n1 65535 = a := ⟨_, rfl⟩
      have ha0 : 0 ≤ a := by rw [← ha, and_65535]; omega
      obtain ⟨i, hi⟩ : ∃ i : Nat, a.tmod (L.length : Int) = (i : Int) := ⟨(a.tmod (L.length : Int)).toNat, by
        rw [Int.tmod_eq_emod_of_nonneg ha0]
        have := Int.emod_nonneg a (show (L.length : Int) ≠ 0 by omega)
        omega⟩
      have hil : i < L.length := by
        rw [Int.tmod_eq_emod_of_nonneg ha0] at hi
        have := Int.emod_lt_of_pos a (show (0 : Int) < (L.length : Int) by omega)
        omega
      obtain ⟨xr, hxr⟩ : ∃ s, L[i]? = some s := ⟨L[i], List.getElem?_eq_getElem hil⟩
      have Hxm := Lib.hid (List.mem_of_getElem? hxr)
      go_upto_region 12 with (go_at_call 17; refine FL.out.mono ?_; rintro e w5 ⟨A2, c2, rfl, hl1, hl2, hl3, _, hB⟩; (have E5 := Lib.hid hB); (have RI := Lib.hid hl3); clear hB hl3)
      obtain ⟨g2, o2, rfl, d0, d1, d2, d3⟩ := RI.out i xr hxr
      have hq : (i : Int) < (L.length : Int) := by omega
      go_upto_region 13 with fail
      clear ha ha0 hi hq d0 d1 d2 d3 h0 FL hL hpos
      have D6 := Lib.hid ((Below.refl _ w5).alloc (Nat.le_refl _) (Obj.cells #[Value.int IntKind.u32 xr.d, Value.int IntKind.i64 xr.b, Value.int IntKind.u32 xr.v, Value.int IntKind.i64 xr.o] 33))
      have B5 := Lib.hid (below_to HB.out E5.out HB.out.size)
      have B6 := Lib.hid (below_to B5.out D6.out B5.out.size)
      have T6 := Lib.hid ((HT.out.below E5.out).below D6.out)
      have R6 := Lib.hid (RtAt.of_heap (r := xr) (heap_alloc_new w5 (Obj.cells #[Value.int IntKind.u32 xr.d, Value.int IntKind.i64 xr.b, Value.int IntKind.u32 xr.v, Value.int IntKind.i64 xr.o] 33)))
      generalize w5.alloc (Obj.cells #[Value.int IntKind.u32 xr.d, Value.int IntKind.i64 xr.b, Value.int IntKind.u32 xr.v, Value.int IntKind.i64 xr.o] 33) = w6 at B6 T6 R6 ⊢
      generalize w5.heap.size = g5 at R6 ⊢
      clear D6 B5 RI E5
      obtain ⟨r, hr⟩ : ∃ r : Rt, (fnd L x 33).getD Rt.zero = r := ⟨_, rfl⟩
      obtain ⟨ok, hok⟩ : ∃ ok : Bool, (fnd L x 33).isSome = ok := ⟨_, rfl⟩
      obtain ⟨r2, hr2⟩ : ∃ r : Rt, (fnd (delL L xr.d xr.b) x 33).getD Rt.zero = r := ⟨_, rfl⟩
      obtain ⟨ok2, hok2⟩ : ∃ ok : Bool, (fnd (delL L xr.d xr.b) x 33).isSome = ok := ⟨_, rfl⟩
      have F1 := Lib.hid (find_any L x Hx.out p q w6 T6.out)
      rw [hr, hok] at F1
      unfold Rt.val at F1
      have Hr := Lib.hid (And.intro hr hok)
      have Hr2 := Lib.hid (And.intro hr2 hok2)
      have HxR := Lib.hid (HT.out.right xr Hxm.out)
      go_upto_region 14 with (go_at_call 15; refine F1.out.mono ?_; rintro e w7 ⟨rfl, hB⟩; (have E7 := Lib.hid hB); clear hB)
      have D8 := Lib.hid ((Below.refl _ w7).alloc (Nat.le_refl _) (Obj.cells #[Value.int IntKind.u32 r.d, Value.int IntKind.i64 r.b, Value.int IntKind.u32 r.v, Value.int IntKind.i64 r.o] 33))
      have E8 := Lib.hid (below_to E7.out D8.out E7.out.size)
      have B8 := Lib.hid (below_to B6.out E8.out B6.out.size)
      have T8 := Lib.hid (T6.out.below E8.out)
      have R8 := Lib.hid (R6.out.below E8.out)
      have S8 := Lib.hid (RtAt.of_heap (r := r) (heap_alloc_new w7 (Obj.cells #[Value.int IntKind.u32 r.d, Value.int IntKind.i64 r.b, Value.int IntKind.u32 r.v, Value.int IntKind.i64 r.o] 33)))
      generalize w7.alloc (Obj.cells #[Value.int IntKind.u32 r.d, Value.int IntKind.i64 r.b, Value.int IntKind.u32 r.v, Value.int IntKind.i64 r.o] 33) = w8 at B8 T8 R8 S8 ⊢
      generalize w7.heap.size = g7 at S8 ⊢
      clear D8 E8 E7 F1 T6 R6 B6
      obtain ⟨c0, c1, c2, c3⟩ : w8.cell? ⟨g5, 0, none⟩ = some (.int .u32 xr.d) ∧ w8.cell? ⟨g5, 1, none⟩ = some (.int .i64 xr.b) ∧ w8.cell? ⟨g5, 2, none⟩ = some (.int .u32 xr.v) ∧ w8.cell? ⟨g5, 3, none⟩ = some (.int .i64 xr.o) := ⟨R8.out.c0, R8.out.c1, R8.out.c2, R8.out.c3⟩
      have A1 := Lib.hid (del_any L xr.d xr.b HxR.out.i.d HxR.out.i.b p q w8 T8.out)
      rw [del_code_in HT.out.srt Hxm.out] at A1
      go_upto_region 15 with (go_at_call 21; refine A1.out.mono ?_; rintro e w9 ⟨rfl, hT, hG⟩; (have T9 := Lib.hid hT); (have G9 := Lib.hid hG); clear hT hG)
      have B9 := Lib.hid (below_grown B8.out B8.out.size G9.out Q0.out)
      have R9 := Lib.hid (R8.out.grown T8.out G9.out)
      have S9 := Lib.hid (S8.out.grown T8.out G9.out)
      clear c0 c1 c2 c3 A1
      obtain ⟨c0, c1, c2, c3⟩ : w9.cell? ⟨g5, 0, none⟩ = some (.int .u32 xr.d) ∧ w9.cell? ⟨g5, 1, none⟩ = some (.int .i64 xr.b) ∧ w9.cell? ⟨g5, 2, none⟩ = some (.int .u32 xr.v) ∧ w9.cell? ⟨g5, 3, none⟩ = some (.int .i64 xr.o) := ⟨R9.out.c0, R9.out.c1, R9.out.c2, R9.out.c3⟩
      have A2 := Lib.hid (del_any (delL L xr.d xr.b) xr.d xr.b HxR.out.i.d HxR.out.i.b p q w9 T9.out)
      rw [del_code_out, del_twice] at A2
      go_upto_region 16 with (go_at_call 21; refine A2.out.mono ?_; rintro e w10 ⟨rfl, hT, hG⟩; (have T10 := Lib.hid hT); (have G10 := Lib.hid hG); clear hT hG)
      have B10 := Lib.hid (below_grown B9.out B9.out.size G10.out Q0.out)
      have R10 := Lib.hid (R9.out.grown T9.out G10.out)
      have S10 := Lib.hid (S9.out.grown T9.out G10.out)
      clear c0 c1 c2 c3 A2 T8 T9 R8 R9 S8 S9 B8 B9 G9 G10
      have F2 := Lib.hid (find_any (delL L xr.d xr.b) x Hx.out p q w10 T10.out)
      rw [hr2, hok2] at F2
      unfold Rt.val at F2
      clear hr hok hr2 hok2
      go_upto_region 17 with (go_at_call 15; refine F2.out.mono ?_; rintro e w11 ⟨rfl, hB⟩; (have E11 := Lib.hid hB); clear hB)
      have D12 := Lib.hid ((Below.refl _ w11).alloc (Nat.le_refl _) (Obj.cells #[Value.int IntKind.u32 r2.d, Value.int IntKind.i64 r2.b, Value.int IntKind.u32 r2.v, Value.int IntKind.i64 r2.o] 33))
      have E12 := Lib.hid (below_to E11.out D12.out E11.out.size)
      have B12 := Lib.hid (below_to B10.out E12.out B10.out.size)
      have T12 := Lib.hid (T10.out.below E12.out)
      have R12 := Lib.hid (R10.out.below E12.out)
      have S12 := Lib.hid (S10.out.below E12.out)
      have N12 := Lib.hid (RtAt.of_heap (r := r2) (heap_alloc_new w11 (Obj.cells #[Value.int IntKind.u32 r2.d, Value.int IntKind.i64 r2.b, Value.int IntKind.u32 r2.v, Value.int IntKind.i64 r2.o] 33)))
      generalize w11.alloc (Obj.cells #[Value.int IntKind.u32 r2.d, Value.int IntKind.i64 r2.b, Value.int IntKind.u32 r2.v, Value.int IntKind.i64 r2.o] 33) = w12 at B12 T12 R12 S12 N12 ⊢
      generalize w11.heap.size = g11 at N12 ⊢
      clear D12 E12 E11 F2 T10 R10 S10 B10
      obtain ⟨c0, c1, c2, c3⟩ : w12.cell? ⟨g5, 0, none⟩ = some (.int .u32 xr.d) ∧ w12.cell? ⟨g5, 1, none⟩ = some (.int .i64 xr.b) ∧ w12.cell? ⟨g5, 2, none⟩ = some (.int .u32 xr.v) ∧ w12.cell? ⟨g5, 3, none⟩ = some (.int .i64 xr.o) := ⟨R12.out.c0, R12.out.c1, R12.out.c2, R12.out.c3⟩
      obtain ⟨k0, k1, k2, k3⟩ : w12.cell? ⟨g7, 0, none⟩ = some (.int .u32 r.d) ∧ w12.cell? ⟨g7, 1, none⟩ = some (.int .i64 r.b) ∧ w12.cell? ⟨g7, 2, none⟩ = some (.int .u32 r.v) ∧ w12.cell? ⟨g7, 3, none⟩ = some (.int .i64 r.o) := ⟨S12.out.c0, S12.out.c1, S12.out.c2, S12.out.c3⟩
      obtain ⟨l0, l1, l2, l3⟩ : w12.cell? ⟨g11, 0, none⟩ = some (.int .u32 r2.d) ∧ w12.cell? ⟨g11, 1, none⟩ = some (.int .i64 r2.b) ∧ w12.cell? ⟨g11, 2, none⟩ = some (.int .u32 r2.v) ∧ w12.cell? ⟨g11, 3, none⟩ = some (.int .i64 r2.o) := ⟨N12.out.c0, N12.out.c1, N12.out.c2, N12.out.c3⟩
      have FL := Lib.hid (list_any (delL L xr.d xr.b) p q w12 T12.out)
      have hlen := del_length HT.out.srt Hxm.out
      have qlen : (((delL L xr.d xr.b).length : Int) == (L.length : Int) - 1) = true := by rw [beq_iff_eq]; omega
      have HF2 : (delL L xr.d xr.b).length ≤ 64 := T12.out.few
      generalize (delL L xr.d xr.b).length = n2 at FL qlen HF2
      have e1 := fun W => rt_neq r xr W
      have e2 := fun W => rt_neq r2 r W
      have e3 := fun W => rt_eql r2 xr W
      have eg := rt_eqGuard
      clear hlen hxr hil
      cases hf : fnd L x 33 with
      | none =>
        have h1 := Hr.out.2
        have h2 := Hr2.out.2
        rw [hf] at h1
        rw [fnd_gone_none HT.out.right hf] at h2
        obtain rfl : ok = false := h1.symm
        obtain rfl : ok2 = false := h2.symm
        clear h1 h2 hf e1 e2 e3
        go_wp2_with (go_at_call 17; refine FL.out.mono ?_; rintro e w13 ⟨A3, c3', rfl, _, _, _, _, hB⟩; (have E13 := Lib.hid hB); clear hB)
        go_ret
        exact ⟨rfl, below_to B12.out E13.out B12.out.size⟩
      | some t =>
        have h1 := Hr.out
        rw [hf] at h1
        obtain ⟨rfl, h1'⟩ : t = r ∧ true = ok := h1
        obtain rfl : ok = true := h1'.symm
        by_cases hne : t = xr
        · have b1 : eqB t xr = true := eqB_iff.2 hne
          rw [b1] at e1
          cases hf2 : fnd (delL L xr.d xr.b) x 33 with
          | none =>
            have h2 := Hr2.out.2
            rw [hf2] at h2
            obtain rfl : ok2 = false := h2.symm
            (try clear hne)
            (try clear b1)
            (try clear e3)
            (try clear e2)
            (try clear hf2)
            (try clear hf)
            (try clear h2)
            (try clear h1)
            go_wp2_with (go_at_call 17; refine FL.out.mono ?_; rintro e w13 ⟨A3, c3', rfl, _, _, _, _, hB⟩; (have E13 := Lib.hid hB); clear hB)
            go_ret
            exact ⟨rfl, below_to B12.out E13.out B12.out.size⟩
          | some u =>
            have h2 := Hr2.out
            rw [hf2] at h2
            obtain ⟨rfl, h2'⟩ : u = r2 ∧ true = ok2 := h2
            obtain rfl : ok2 = true := h2'.symm
            have b3 : eqB u xr = false := eqB_ne (fnd_gone_ne hf2)
            rw [b3] at e3
            (try clear hne)
            (try clear b3)
            (try clear b1)
            (try clear e2)
            (try clear hf2)
            (try clear hf)
            (try clear h2')
            (try clear h2)
            (try clear h1')
            (try clear h1)
            go_wp2_with (go_at_call 17; refine FL.out.mono ?_; rintro e w13 ⟨A3, c3', rfl, _, _, _, _, hB⟩; (have E13 := Lib.hid hB); clear hB)
            go_ret
            exact ⟨rfl, below_to B12.out E13.out B12.out.size⟩
        · have b1 : eqB t xr = false := eqB_ne hne
          rw [b1] at e1
          have hf2 := fnd_gone_other HT.out.srt HT.out.right hf Hxm.out hne
          have h2 := Hr2.out
          rw [hf2] at h2
          obtain ⟨h2a, h2'⟩ : t = r2 ∧ true = ok2 := h2
          obtain rfl : ok2 = true := h2'.symm
          have b2 : eqB r2 t = true := eqB_iff.2 h2a.symm
          have b3 : eqB r2 xr = false := eqB_ne (fun e => hne (h2a.trans e))
          rw [b2] at e2
          rw [b3] at e3
          (try clear hne)
          (try clear b3)
          (try clear b2)
          (try clear b1)
          (try clear hf2)
          (try clear hf)
          (try clear h2a)
          (try clear h2')
          (try clear h2)
          (try clear h1')
          (try clear h1)
          go_wp2_with (go_at_call 17; refine FL.out.mono ?_; rintro e w13 ⟨A3, c3', rfl, _, _, _, _, hB⟩; (have E13 := Lib.hid hB); clear hB)
          go_ret
          exact ⟨rfl, below_to B12.out E13.out B12.out.size⟩
end Go.Proofs.Ytimpellpfnmicaa
