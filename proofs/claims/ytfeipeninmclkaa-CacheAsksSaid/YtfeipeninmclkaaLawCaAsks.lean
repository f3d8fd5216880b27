/-
  What is proved: CacheAsks by contract: the law returns true, and older memory is as it was.
  Conditions: the numbers fit their types.
-/
import Derived.Test.YtfeipeninmclkaaCaAsksL
import Derived.Deep.DeepCutAuto
namespace Go.Proofs.Ytfeipeninmclkaa
open Go.RowKit

set_option maxRecDepth 100000 in
set_option maxHeartbeats 8000000 in
theorem cacheAsks_con (x0 x1 x2 : Int) (w : World) (hip : U32 x0) (hn : U64 x1) (_ : -9223372036854775808 ≤ x2 ∧ x2 ≤ 9223372036854775807) :
    Calls Try.prog 6 #[.int .u32 x0, .int .u64 x1, .int .i64 x2] w fun e w' => e = .returned (.bool true) ∧ Below w.heap.size w w' := by
  have X0 := Lib.hid (fun W => shown_any W)
  obtain ⟨a, ha⟩ : ∃ a, bits .and .u64 x1 4611686018427387903 = a := ⟨_, rfl⟩
  have ha2 : 0 ≤ a ∧ a < 4611686018427387904 := by rw [← ha, and_62]; omega
  obtain ⟨n, hn'⟩ : ∃ n : Nat, bits .and .i64 x2 3 = (n : Int) := ⟨(x2 % 4).toNat, by rw [and_3]; omega⟩
  have hn4 : n < 4 := by have h := hn'; rw [and_3] at h; omega
  have Hip := Lib.hid hip
  have Ha : Hid (U64 a) := Lib.hid (by unfold U64; omega)
  have HN := Lib.hid (fun W W1 (h : Below W.heap.size W W1) => new_cx W W1 h)
  clear hip hn
  go_enter Try.func6, Try.ntmps6
  go_upto_block 0 with (first
    | (go_at_call 9; refine (X0.out _).mono ?_; rintro e w1 ⟨rfl, hB⟩; (have B1 := Lib.hid hB); clear hB)
    | (go_at_call 10; refine (HN.out w _ B1.out).mono ?_; rintro e w2 ⟨p, rfl, hC, _⟩; (have C0 := Lib.hid hC); clear hC))
  clear B1
  go_cut [9] (fun _ wx => Cx w (fun _ => False) wx p (wS x0 a (n + 1)))
  case first =>
    go_wp2_with fail
    go_loopw [9] (fun s9 wr => ∃ i : Nat, s9 = .int .i64 (i : Int) ∧ i ≤ n + 1 ∧ Cx w (fun _ => False) wr p (wS x0 a i)) (fun s9 _ => n + 1 - (intOf s9).toNat)
    case atStart => exact ⟨0, rfl, Nat.zero_le _, C0.out⟩
    case round =>
      obtain ⟨i, rfl, hi, hC⟩ := hrel
      have HC := Lib.hid hC
      clear hC C0
      by_cases hlt : i < n + 1
      · have q1 : decide ((i : Int) < 1 + (n : Int)) = true := decide_eq_true (by omega)
        have V1 := conv_one wr 112
        have R1 := Lib.hid (rd_one wr 112)
        have D1 := Lib.hid ((Below.refl _ wr).alloc (Nat.le_refl _) (oneMark 112))
        have E1 := Lib.hid ((HC.out.to D1.out).wait (ip := x0) (now := a) Hip.out Ha.out (x := pp) (by decide) R1.out)
        rw [(wS_wait (ip := x0) (now := a) (show i < 4 by omega)).1, (wS_wait (ip := x0) (now := a) (show i < 4 by omega)).2.1, (wS_wait (ip := x0) (now := a) (show i < 4 by omega)).2.2] at E1
        obtain ⟨b, hb⟩ : ∃ b, ((i : Int) == 0) = b := ⟨_, rfl⟩
        rw [hb] at E1
        go_wp2_with (go_at_call 11; refine E1.out.mono ?_; rintro e w3 ⟨rfl, hC, _⟩; (have C3 := Lib.hid hC); clear hC)
        exact ⟨⟨i + 1, by simp, by omega, C3.out⟩, by simp [intOf]; omega⟩
      · have q1 : decide ((i : Int) < 1 + (n : Int)) = false := decide_eq_false (by omega)
        go_wp2_with fail
        go_meet
        case rel =>
          obtain rfl : i = n + 1 := by omega
          exact HC.out
  case rest =>
    have HC := Lib.hid hcut
    clear hcut C0
    have E1 := Lib.hid (HC.out.wait (ip := x0) (now := a) Hip.out Ha.out (x := []) (by decide) (Rd.nil wc))
    have l1 := wS_last (ip := x0) (now := a) (show 1 ≤ n + 1 by omega) (show n + 1 ≤ 4 by omega)
    rw [l1.2] at E1
    have HP := Lib.hid (Pf_length (show n + 1 ≤ 4 by omega))
    obtain ⟨cd, hcd⟩ : ∃ cd, waitC (wS x0 a (n + 1)) x0 a = cd := ⟨_, rfl⟩
    obtain ⟨fa, hfa⟩ : ∃ fa, waitA (wS x0 a (n + 1)) x0 a = fa := ⟨_, rfl⟩
    rw [hcd, hfa] at E1
    have l2 := l1.1
    rw [hcd] at l2
    have L2 := Lib.hid l2
    clear l1 hcd hfa l2
    go_upto_region 14 with (go_at_call 11; refine E1.out.mono ?_; rintro e w3 ⟨rfl, hC, _⟩; (have C3 := Lib.hid hC); clear hC)
    go_cut [61] (fun s61 wx => s61 = .bool false ∧ Cx w (fun _ => False) wx p (one x0 a 1 (Pf (n + 1))))
    case first =>
      by_cases h4 : n = 3
      · subst h4
        obtain rfl : cd = 5 := L2.out
        go_wp2_with fail
        go_meet
        case rel => exact ⟨rfl, C3.out⟩
      · have q1 : ((1 + (n : Int)) == 4) = false := by rw [beq_eq_false_iff_ne]; omega
        go_wp2_with fail
        go_meet
        case rel => exact ⟨rfl, C3.out⟩
    case rest =>
      obtain ⟨rfl, hC⟩ := hcut
      have HC := Lib.hid hC
      clear hC L2 E1 C3
      go_upto_if 63 with fail
      go_cut [2] (fun s2 wx => s2 = .int .i64 ((Pf (n + 1)).length : Nat) ∧ Cx w (fun _ => False) wx p (one x0 a 1 (Pf (n + 1))))
      case first =>
        by_cases h4 : n = 3
        · subst h4
          go_wp2_with fail
          go_meet
          case rel => exact ⟨rfl, HC.out⟩
        · have q2 : decide ((1 + (n : Int)) < 4) = true := decide_eq_true (by omega)
          go_wp2_with fail
          go_meet
          case rel =>
            have hP := HP.out
            rw [if_pos (by omega)] at hP
            exact ⟨congrArg (Value.int .i64) (by omega), HC.out⟩
      case rest =>
        obtain ⟨rfl, hC⟩ := hcut
        have HC := Lib.hid hC
        have hl4 : (Pf (n + 1)).length ≤ 5 := by have := HP.out; split at this <;> omega
        have hl0 : 0 < (Pf (n + 1)).length := by have := HP.out; split at this <;> omega
        clear hC HP
        generalize Pf (n + 1) = P at HC hl4 hl0 ⊢
        go_upto_block 0 with fail
        go_loopw [14] (fun s14 wr => ∃ k : Nat, s14 = .int .u64 (k : Int) ∧ 1 ≤ k ∧ k ≤ 11 ∧ Cx w (fun _ => False) wr p (tS x0 a P k)) (fun s14 _ => 12 - (numOf s14).toNat)
        case atStart => exact ⟨1, rfl, by omega, by omega, HC.out⟩
        case round =>
          obtain ⟨k, rfl, h1, h11, hC⟩ := hrel
          have HD := Lib.hid hC
          clear hC HC
          have qk : IntKind.u64.wrap ((k : Int) + 1) = (k : Int) + 1 := by rw [IntKind.wrap_u64]; omega
          by_cases hlt : k ≤ 10
          · have qw : IntKind.u64.wrap (a + (k : Int)) = a + (k : Int) := by rw [IntKind.wrap_u64]; omega
            have q0 : decide ((k : Int) ≤ 10) = true := decide_eq_true (by omega)
            obtain ⟨t1, t2, t3⟩ := tS_tick (ip := x0) (now := a) (P := P) h1 hlt
            by_cases h2 : k = 2
            · subst h2
              have T := Lib.hid (HD.out.ticks (now := a + (2 : Nat)) (by unfold U64; omega) t1 t2 t3)
              simp only [true_or, if_true, if_neg (show ¬ (2 : Nat) = 6 by omega), List.length_cons, List.length_nil, Nat.zero_add] at T
              clear t1 t2 t3 q0 qk
              go_wp2_with (go_at_call 16; refine T.out.mono ?_; rintro e w3 ⟨A, c, rfl, hA, hC, _⟩; (obtain ⟨g, rfl, hg⟩ := hA 0 x0 rfl); clear hA; (have C3 := Lib.hid hC); clear hC)
              exact ⟨⟨3, by simp, by omega, by omega, C3.out⟩, by simp [numOf]⟩
            · by_cases h4 : k = 4
              · subst h4
                have T := Lib.hid (HD.out.ticks (now := a + (4 : Nat)) (by unfold U64; omega) t1 t2 t3)
                simp only [or_true, if_true, if_neg (show ¬ (4 : Nat) = 6 by omega), List.length_cons, List.length_nil, Nat.zero_add] at T
                clear t1 t2 t3 q0 qk
                go_wp2_with (go_at_call 16; refine T.out.mono ?_; rintro e w3 ⟨A, c, rfl, hA, hC, _⟩; (obtain ⟨g, rfl, hg⟩ := hA 0 x0 rfl); clear hA; (have C3 := Lib.hid hC); clear hC)
                exact ⟨⟨5, by simp, by omega, by omega, C3.out⟩, by simp [numOf]⟩
              · have q2 : ((k : Int) == 2) = false := by rw [beq_eq_false_iff_ne]; omega
                have q4 : ((k : Int) == 4) = false := by rw [beq_eq_false_iff_ne]; omega
                rw [if_neg (by omega)] at t1
                by_cases h6 : k = 6
                · subst h6
                  rw [if_pos rfl] at t2
                  have T := Lib.hid (HD.out.ticks (now := a + (6 : Nat)) (by unfold U64; omega) t1 t2 t3)
                  simp only [List.length_nil] at T
                  clear t1 t2 t3 q0 qk q2 q4
                  go_wp2_with (go_at_call 16; refine T.out.mono ?_; rintro e w3 ⟨A, c, rfl, hA, hC, _⟩; clear hA; (have C3 := Lib.hid hC); clear hC)
                  exact ⟨⟨7, by simp, by omega, by omega, C3.out⟩, by simp [numOf]⟩
                · have q6 : ((k : Int) == 6) = false := by rw [beq_eq_false_iff_ne]; omega
                  have q7 : ((0 : Int) == (P.length : Int)) = false := by rw [beq_eq_false_iff_ne]; omega
                  rw [if_neg h6] at t2
                  have T := Lib.hid (HD.out.ticks (now := a + (k : Int)) (by unfold U64; omega) t1 t2 t3)
                  simp only [List.length_nil] at T
                  clear t1 t2 t3
                  go_wp2_with (go_at_call 16; refine T.out.mono ?_; rintro e w3 ⟨A, c, rfl, hA, hC, _⟩; clear hA; (have C3 := Lib.hid hC); clear hC)
                  exact ⟨⟨k + 1, by simp, by omega, by omega, C3.out⟩, by simp [numOf]; omega⟩
          · have q0 : decide ((k : Int) ≤ 10) = false := decide_eq_false (by omega)
            have hL : tS x0 a P k = [] := by unfold tS; rw [if_neg (by omega), if_neg (by omega), if_neg (by omega)]
            rw [hL] at HD
            have HL := Lib.hid HD.out.len
            go_wp2_with (go_at_call 21; refine HL.out.mono ?_; rintro e w3 ⟨rfl, rfl⟩)
            go_ret
            exact ⟨rfl, HD.out.base⟩
end Go.Proofs.Ytfeipeninmclkaa
