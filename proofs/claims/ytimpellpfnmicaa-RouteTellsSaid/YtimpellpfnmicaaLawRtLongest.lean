/-
  What is proved: RouteLongest by contract: the law returns true, and older memory is as it was.
  Conditions: the address fits its type.
-/
import Derived.Test.YtimpellpfnmicaaRtDoes
import Derived.Test.YtimpellpfnmicaaLawRtRefines
import Derived.Test.YtimpellpfnmicaaRtEq
import Derived.Deep.DeepCutAuto
namespace Go.Proofs.Ytimpellpfnmicaa
open Go.RowKit

theorem StepsAt.below {w w' : World} {A : Option Addr} {M : Nat} (h : StepsAt w A M) (hb : Below w.heap.size w w') : StepsAt w' A M := fun k hk => by
  obtain ⟨g, o, s, h1, h2, c0, c1, c2, c3, c4, c5⟩ := h k hk
  have hc : ∀ {i v}, w.cell? ⟨g, i, none⟩ = some v → w'.cell? ⟨g, i, none⟩ = some v := fun hi => (hb.cell (World.block_lt_of_cell? w _ hi)).trans hi
  exact ⟨g, o, s, h1, h2, hc c0, hc c1, hc c2, hc c3, hc c4, hc c5⟩
theorem RtsAt.below {w w' : World} {A : Option Addr} {M : Nat} (h : RtsAt w A M) (hb : Below w.heap.size w w') : RtsAt w' A M := fun k hk => by
  obtain ⟨g, o, s, h1, h2, c0, c1, c2, c3⟩ := h k hk
  have hc : ∀ {i v}, w.cell? ⟨g, i, none⟩ = some v → w'.cell? ⟨g, i, none⟩ = some v := fun hi => (hb.cell (World.block_lt_of_cell? w _ hi)).trans hi
  exact ⟨g, o, s, h1, h2, hc c0, hc c1, hc c2, hc c3⟩
theorem RtsIn.below {w w' : World} {A : Option Addr} {L : List Rt} (h : RtsIn w A L) (hb : Below w.heap.size w w') : RtsIn w' A L := fun k r hk => by
  obtain ⟨g, o, h1, c0, c1, c2, c3⟩ := h k r hk
  have hc : ∀ {i v}, w.cell? ⟨g, i, none⟩ = some v → w'.cell? ⟨g, i, none⟩ = some v := fun hi => (hb.cell (World.block_lt_of_cell? w _ hi)).trans hi
  exact ⟨g, o, h1, hc c0, hc c1, hc c2, hc c3⟩

/-- The laws' first loop: any steps on a table. -/
structure Stepped (w wr : World) (p q : Nat) : Prop where
  tab : ∃ L, Tab wr p q L
  below : Below w.heap.size w wr

set_option maxRecDepth 100000 in
set_option maxHeartbeats 4000000 in
theorem routeLongest_con (A : Option Addr) (M c : Nat) (x : Int) (w : World) (hMc : M ≤ c) (hc : c ≤ 9223372036854775807) (hS : StepsAt w A M) (hx : U32 x) :
    Calls Try.prog 4 #[.slice A M c, .int .u32 x] w fun e w' => e = .returned (.bool true) ∧ Below w.heap.size w w' := by
  have X0 := Lib.hid (fun W => shown_any W)
  have HN := Lib.hid (fun W => new_any W)
  have Hx := Lib.hid hx
  have HS := Lib.hid hS
  have hM : M ≤ 9223372036854775807 := by omega
  clear hx hS hMc hc
  go_enter Try.func4, Try.ntmps4
  go_upto_block 0 with (first
    | (go_at_call 9; refine (X0.out _).mono ?_; rintro e w1 ⟨rfl, hB⟩; (have B1 := Lib.hid hB); clear hB)
    | (go_at_call 10; refine (HN.out _).mono ?_; rintro e w2 ⟨p, q, rfl, hT, hp, hq, hB⟩; (have T0 := Lib.hid hT); (have B0 := Lib.hid hB); (have P0 := Lib.hid (And.intro hp hq)); clear hT hB hp hq))
  have B2 := Lib.hid (below_to B1.out B0.out B1.out.size)
  have Q0 : Hid (w.heap.size ≤ q) := Lib.hid (Nat.le_trans B1.out.size P0.out.2)
  go_cut [7] (fun _ wx => Stepped w wx p q)
  case first =>
    go_wp2_with fail
    go_loopw [7] (fun s7 wr => ∃ k : Nat, s7 = .int .i64 (k : Int) ∧ k ≤ M ∧ Stepped w wr p q) (fun s7 _ => M - (intOf s7).toNat)
    case atStart => exact ⟨0, rfl, Nat.zero_le _, ⟨_, T0.out⟩, B2.out⟩
    case round =>
      obtain ⟨k, rfl, hk, hSt⟩ := hrel
      obtain ⟨⟨L, hT⟩, hB⟩ := hSt
      have HT := Lib.hid hT
      have HB := Lib.hid hB
      clear hT hB
      by_cases hlt : k < M
      · have q1 : decide ((k : Int) < (M : Int)) = true := decide_eq_true (by omega)
        by_cases h2 : k < 200
        · obtain ⟨g, o, s, rfl, hs, c0, c1, c2, c3, c4, c5⟩ := (HS.out.below HB.out) k hlt
          have HD := Lib.hid (does_any L s hs p q wr HT.out)
          have q2 : decide ((k : Int) < 200) = true := decide_eq_true (by omega)
          go_wp2_with (go_at_call 14; refine HD.out.mono ?_; rintro e w3 ⟨rfl, hT, hG⟩; (have T3 := Lib.hid hT); (have G3 := Lib.hid hG); clear hT hG)
          exact ⟨⟨k + 1, by simp, by omega, ⟨_, T3.out⟩, below_grown HB.out HB.out.size G3.out Q0.out⟩, by simp [intOf]; omega⟩
        · have q2 : decide ((k : Int) < 200) = false := decide_eq_false (by omega)
          go_wp2_with fail
          go_meet
          case rel => exact ⟨⟨_, HT.out⟩, HB.out⟩
      · have q1 : decide ((k : Int) < (M : Int)) = false := decide_eq_false (by omega)
        go_wp2_with fail
        go_meet
        case rel => exact ⟨⟨_, HT.out⟩, HB.out⟩
  case rest =>
    obtain ⟨⟨L, hT⟩, hB⟩ := hcut
    have HT := Lib.hid hT
    have HB := Lib.hid hB
    clear hT hB B2 T0 B1 B0 P0
    obtain ⟨r, hr⟩ : ∃ r : Rt, (fnd L x 33).getD Rt.zero = r := ⟨_, rfl⟩
    obtain ⟨ok, hok⟩ : ∃ ok : Bool, (fnd L x 33).isSome = ok := ⟨_, rfl⟩
    have F1 := Lib.hid (find_any L x Hx.out p q wc HT.out)
    rw [hr, hok] at F1
    unfold Rt.val at F1
    have Hr := Lib.hid hr
    have Hok := Lib.hid hok
    clear hr hok
    go_upto_region 10 with (go_at_call 15; refine F1.out.mono ?_; rintro e w3 ⟨rfl, hB⟩; (have E3 := Lib.hid hB); clear hB)
    have D3 := Lib.hid ((Below.refl _ w3).alloc (Nat.le_refl _) (Obj.cells #[Value.int IntKind.u32 r.d, Value.int IntKind.i64 r.b, Value.int IntKind.u32 r.v, Value.int IntKind.i64 r.o] 33))
    have R3 := Lib.hid (RtAt.of_heap (r := r) (heap_alloc_new w3 (Obj.cells #[Value.int IntKind.u32 r.d, Value.int IntKind.i64 r.b, Value.int IntKind.u32 r.v, Value.int IntKind.i64 r.o] 33)))
    have E3' := Lib.hid (below_to E3.out D3.out E3.out.size)
    have B3 := Lib.hid (below_to HB.out E3'.out HB.out.size)
    have FL := Lib.hid (list_any L p q _ (HT.out.below E3'.out))
    generalize w3.alloc (Obj.cells #[Value.int IntKind.u32 r.d, Value.int IntKind.i64 r.b, Value.int IntKind.u32 r.v, Value.int IntKind.i64 r.o] 33) = w4 at R3 B3 FL ⊢
    generalize w3.heap.size = g at R3 ⊢
    clear D3 E3 E3' F1
    go_upto_block 2 with (go_at_call 17; refine FL.out.mono ?_; rintro e w5 ⟨A2, c2, rfl, hl1, hl2, hl3, _, hB⟩; (have E5 := Lib.hid hB); (have RI := Lib.hid hl3); clear hB hl3)
    have B5 := Lib.hid (below_to B3.out E5.out B3.out.size)
    have R5 := Lib.hid (R3.out.below E5.out)
    have HF := HT.out.few
    clear R3 B3 FL E5
    go_wp2_with fail
    go_loopw [11, 12] (fun s11 s12 wr => ∃ k n : Nat, s12 = .int .i64 (k : Int) ∧ k ≤ L.length ∧ s11 = .bool ((L.take k).any (fun s => eqB s r)) ∧ wr = w5.drewN n) (fun _ s12 _ => L.length - (intOf s12).toNat)
    case atStart => exact ⟨0, 0, rfl, Nat.zero_le _, rfl, rfl⟩
    case round =>
      obtain ⟨k, n, rfl, hk, rfl, rfl⟩ := hrel
      obtain ⟨r0, r1, r2, r3⟩ := R5.out
      by_cases hlt : k < L.length
      · obtain ⟨s, hs⟩ : ∃ s, L[k]? = some s := ⟨L[k], List.getElem?_eq_getElem hlt⟩
        obtain ⟨g2, o2, rfl, d0, d1, d2, d3⟩ := RI.out k s hs
        have q1 : decide ((k : Int) < (L.length : Int)) = true := decide_eq_true (by omega)
        obtain ⟨th, hth⟩ : ∃ th, (L.take k).any (fun s => eqB s r) = th := ⟨_, rfl⟩
        rw [hth]
        have Hth := Lib.hid hth
        clear hth
        have e1 := fun W => rt_eql s r W
        have eg := rt_eqGuard
        obtain ⟨se, hse⟩ : ∃ se, eqB s r = se := ⟨_, rfl⟩
        rw [hse] at e1
        have Hse := Lib.hid hse
        clear hse
        go_upto_region 15 with fail
        go_cut [11] (fun s11 wx => s11 = .bool (th || se) ∧ ∃ m, wx = w5.drewN m)
        case first =>
          cases th with
          | true =>
            go_quiet (fail)
            go_wp2_with fail
            go_meet
            case rel => exact ⟨rfl, n + nq, World.drewN_drewN _ _ _⟩
          | false =>
            go_quiet (fail)
            go_wp2_with fail
            go_meet
            case rel => exact ⟨rfl, n + nq, World.drewN_drewN _ _ _⟩
        case rest =>
          obtain ⟨rfl, m, rfl⟩ := hcut
          clear e1 eg
          have hsm : s ∈ L := List.mem_of_getElem? hs
          have hsR := HT.out.right s hsm
          obtain ⟨y, hy⟩ : ∃ y, cutI x s.b = y := ⟨_, rfl⟩
          have hcut := Lib.hid (fun W => cut_any x s.b Hx.out W)
          rw [hy] at hcut
          have hcov : y = s.d → ok = true ∧ s.b ≤ r.b := fun he => by
            cases hf : fnd L x 33 with
            | none => exact (fnd_none hf s hsm (by rw [hy, he]) hsR.b0 (by have := hsR.b1; omega)).elim
            | some t =>
              obtain ⟨_, _, _, _, h5⟩ := fnd_some hf
              have h6 := Hr.out
              have h7 := Hok.out
              rw [hf] at h6 h7
              exact ⟨h7.symm, by rw [← h6]; exact h5 s hsm (by rw [hy, he]) (by have := hsR.b1; omega)⟩
          have Hth2 : Hid ((L.take (k + 1)).any (fun s => eqB s r) = (th || se)) := Lib.hid (by
            rw [List.take_add_one, hs, List.any_append, Hth.out]
            simp [Hse.out])
          have Hhs := Lib.hid hs
          clear hsm hsR hy hs
          obtain ⟨w6, hw6⟩ : ∃ w6, w5.drewN m = w6 := ⟨_, rfl⟩
          have f0 : w6.cell? ⟨g, 0, none⟩ = some (.int .u32 r.d) := by rw [← hw6]; exact r0
          have f1 : w6.cell? ⟨g, 1, none⟩ = some (.int .i64 r.b) := by rw [← hw6]; exact r1
          have e0 : w6.cell? ⟨g2, o2 + k * 4, none⟩ = some (.int .u32 s.d) := by rw [← hw6]; exact d0
          have e1 : w6.cell? ⟨g2, o2 + k * 4 + 1, none⟩ = some (.int .i64 s.b) := by rw [← hw6]; exact d1
          rw [hw6]
          have Hw6 := Lib.hid hw6
          clear hw6 r0 r1 r2 r3 d0 d1 d2 d3
          by_cases hys : y = s.d
          · obtain ⟨rfl, hle⟩ := hcov hys
            have qc : (y == s.d) = true := beq_iff_eq.2 hys
            have qd : decide (r.b < s.b) = false := decide_eq_false (by omega)
            clear hcov hys hle
            go_upto_region 16 with fail
            go_quiet ((go_at_call 19; exact Calls.quiet_of_same (hcut.out _)))
            go_wp2_with fail
            exact ⟨⟨k + 1, m + nq, by simp, by omega, by rw [Hth2.out], by rw [← Hw6.out]; exact World.drewN_drewN _ _ _⟩, by simp [intOf]; omega⟩
          · have qc : (y == s.d) = false := beq_eq_false_iff_ne.2 hys
            clear hcov hys
            go_upto_region 16 with fail
            go_quiet ((go_at_call 19; exact Calls.quiet_of_same (hcut.out _)))
            go_wp2_with fail
            exact ⟨⟨k + 1, m + nq, by simp, by omega, by rw [Hth2.out], by rw [← Hw6.out]; exact World.drewN_drewN _ _ _⟩, by simp [intOf]; omega⟩
      · have q1 : decide ((k : Int) < (L.length : Int)) = false := decide_eq_false (by omega)
        obtain rfl : k = L.length := by omega
        rw [List.take_length]
        obtain ⟨w6, hw6⟩ : ∃ w6, w5.drewN n = w6 := ⟨_, rfl⟩
        have f0 : w6.cell? ⟨g, 0, none⟩ = some (.int .u32 r.d) := by rw [← hw6]; exact r0
        have f1 : w6.cell? ⟨g, 1, none⟩ = some (.int .i64 r.b) := by rw [← hw6]; exact r1
        have B6 := Lib.hid (below_dN B5.out n)
        rw [hw6] at B6 ⊢
        clear hw6 r0 r1 r2 r3 hk hlt
        have q2 : decide ((L.length : Int) ≤ 64) = true := decide_eq_true (by omega)
        cases ok with
        | true =>
          have hfr : fnd L x 33 = some r := by
            have h6 := Hr.out
            have h7 := Hok.out
            cases hf : fnd L x 33 with
            | none => rw [hf] at h7; cases h7
            | some t => rw [hf] at h6; rw [← h6]; rfl
          obtain ⟨hm, _, _, h4, _⟩ := fnd_some hfr
          have hth : L.any (fun s => eqB s r) = true := List.any_eq_true.2 ⟨r, hm, eqB_iff.2 rfl⟩
          rw [hth]
          have hcut := Lib.hid (fun W => cut_any x r.b Hx.out W)
          rw [← h4] at hcut
          clear hfr hm h4 hth
          go_upto_region 18 with fail
          go_quiet ((go_at_call 19; exact Calls.quiet_of_same (hcut.out _)))
          go_wp2_with fail
          go_ret
          exact ⟨rfl, below_dN B6.out _⟩
        | false =>
          obtain ⟨th, hth⟩ : ∃ th, L.any (fun s => eqB s r) = th := ⟨_, rfl⟩
          rw [hth]
          clear hth
          go_upto_region 18 with fail
          go_quiet (fail)
          go_wp2_with fail
          go_ret
          exact ⟨rfl, below_dN B6.out _⟩
end Go.Proofs.Ytimpellpfnmicaa
