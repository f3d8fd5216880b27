/-
  What is proved: slices.pdqsortOrdered and slices.Sort at addresses by contract: a row of unlike addresses rises behind it.
  Conditions: at most forty-nine addresses, no two alike.
-/
import Derived.Test.YtfeipeninmclkaaCsBreak
namespace Go.Proofs.Ytfeipeninmclkaa
open Go.RowKit

theorem perm_all {a b : Nat} {d d' : Array Int} (hb : b ≤ d.size) (h : Sort.PermIn a b d d') (_ : a ≤ b) : d'.toList.Perm d.toList := by
  have k := (Sort.permIn_mono d d' a b 0 d.size (Nat.zero_le _) hb (Nat.le_refl _) h).2.2
  rw [Array.extract_eq_self_of_le (Nat.le_refl _), Array.extract_eq_self_of_le (by rw [h.1]; exact Nat.le_refl _)] at k
  exact k
theorem nodup_ne {d : Array Int} (h : d.toList.Nodup) {i j : Nat} (hi : i < d.size) (hj : j < d.size) (hij : i ≠ j) : d[i]! ≠ d[j]! := by
  rw [getElem!_pos d i hi, getElem!_pos d j hj]
  intro e
  have e2 : d.toList[i]'(by simpa using hi) = d.toList[j]'(by simpa using hj) := by simpa using e
  exact hij ((List.getElem_inj h).1 e2)

structure Pq (w : World) (g o N a b : Nat) (d : Array Int) (a' b' : Nat) (e : Array Int) (W : World) : Prop where
  row : Sr w g o e W
  size : e.size = N
  nd : e.toList.Nodup
  a1 : a ≤ a'
  ab : a' ≤ b'
  b1 : b' ≤ b
  bN : b ≤ N
  low : Sort.Below Sort.ltInt a' b' e
  fin : ∀ R, Sort.PermIn a' b' e R → Sort.SortedIn Sort.ltInt a' b' R → Sort.PermIn a b d R ∧ Sort.SortedIn Sort.ltInt a b R
section
variable {w W W' : World} {g o N a b a' b' : Nat} {d e e' : Array Int}
theorem Pq.perm (h : Pq w g o N a b d a' b' e W) (hp : Sort.PermIn a' b' e e') (k : Sr W g o e' W') : Pq w g o N a b d a' b' e' W' :=
  ⟨h.row.trans k, hp.1.trans h.size, (perm_all (by have := h.b1; have := h.bN; have := h.size; omega) hp h.ab).nodup_iff.2 h.nd, h.a1, h.ab, h.b1, h.bN,
   Sort.Below.perm h.low (by have := h.b1; have := h.bN; have := h.size; omega) hp, fun R hR hS => h.fin R (Sort.permIn_trans _ _ _ _ _ hp hR) hS⟩
theorem Pq.same (h : Pq w g o N a b d a' b' e W) (k : Below W.heap.size W W') : Pq w g o N a b d a' b' e W' := by
  refine h.perm (Sort.permIn_refl _ _ _) ⟨fun j hj => ?_, ⟨k.os, k.tape, k.output, k.size, fun i hi _ => k.block i hi⟩⟩
  have c := h.row.row j hj
  have hlt := World.block_lt_of_cell? W _ c.1
  exact ⟨(k.cell hlt).trans c.1, (k.frozen hlt).trans c.2⟩
theorem Pq.drewN (h : Pq w g o N a b d a' b' e W) (n : Nat) : Pq w g o N a b d a' b' e (W.drewN n) := h.same ⟨rfl, rfl, rfl, Nat.le_refl _, fun _ _ => rfl⟩
/-- What lies ahead of the part is less than all of it. -/
theorem Pq.less (h : Pq w g o N a b d a' b' e W) (ha : 0 < a') {p : Nat} (h1 : a' ≤ p) (h2 : p < b') : Sort.ltInt e[a' - 1]! e[p]! = true := by
  have hN := h.bN
  have hs := h.size
  have hb := h.b1
  rcases h.low with h0 | hl
  · omega
  · have k := hl p h1 h2
    have n := nodup_ne h.nd (i := a' - 1) (j := p) (by omega) (by omega) (by omega)
    simp only [Sort.ltInt, decide_eq_false_iff_not, decide_eq_true_eq] at k ⊢
    omega
/-- What a call of oneself leaves. -/
def PdqAt (g o a b : Nat) (d : Array Int) (w : World) (e : Ending) (w' : World) : Prop :=
  ∃ d', e = .returned (.tuple #[]) ∧ Sort.PermIn a b d d' ∧ Sort.SortedIn Sort.ltInt a b d' ∧ Sr w g o d' w'
theorem Pq.end (h : Pq w g o N a b d a' b' e W) (hp : Sort.PermIn a' b' e e') (hs : Sort.SortedIn Sort.ltInt a' b' e') (k : Sr W g o e' W') : PdqAt g o a b d w (.returned (.tuple #[])) W' :=
  ⟨e', rfl, (h.fin e' hp hs).1, (h.fin e' hp hs).2, h.row.trans k⟩
/-- Behind the partition: its two parts, the one and then the other. -/
structure Pq2 (w : World) (g o N a b : Nat) (d : Array Int) (a' m b' : Nat) (e : Array Int) (W : World) : Prop where
  row : Sr w g o e W
  size : e.size = N
  nd : e.toList.Nodup
  am : a' ≤ m
  mb : m < b'
  l1 : Sort.Below Sort.ltInt a' m e
  l2 : Sort.Below Sort.ltInt (m + 1) b' e
  left : ∀ L WL, Sort.PermIn a' m e L → Sort.SortedIn Sort.ltInt a' m L → Sr W g o L WL → Pq w g o N a b d (m + 1) b' L WL
  right : ∀ L WL, Sort.PermIn (m + 1) b' e L → Sort.SortedIn Sort.ltInt (m + 1) b' L → Sr W g o L WL → Pq w g o N a b d a' m L WL
theorem Pq.part (h : Pq w g o N a b d a' b' e W) {p m : Nat} (h1 : a' ≤ p) (h2 : p < b') (hm : m = (Sort.partition Sort.ltInt e a' b' p).1) (k : Sr W g o (Sort.partition Sort.ltInt e a' b' p).2.2 W') :
    Pq2 w g o N a b d a' m b' (Sort.partition Sort.ltInt e a' b' p).2.2 W' := by
  have hb : b' ≤ e.size := by have := h.b1; have := h.bN; have := h.size; omega
  obtain ⟨k1, k2, k3, k4, k5, k6, k7⟩ := Sort.round_part Sort.swo_ltInt (Sort.partition_holds Sort.ltInt) h1 h2 hb h.low (mid := m) (ap := (Sort.partition Sort.ltInt e a' b' p).2.1) (d4 := (Sort.partition Sort.ltInt e a' b' p).2.2) (by rw [hm])
  have hperm := (Sort.partition_holds Sort.ltInt Sort.swo_ltInt e a' b' p h1 h2 hb).2.2.1
  generalize (Sort.partition Sort.ltInt e a' b' p).2.2 = f at *
  have hn : f.toList.Nodup := (perm_all hb hperm h.ab).nodup_iff.2 h.nd
  have hsz : f.size = N := hperm.1.trans h.size
  refine ⟨h.row.trans k, hsz, hn, k1, k2, k4, k5, fun L WL hL hS hR => ?_, fun L WL hL hS hR => ?_⟩
  · obtain ⟨l1, l2⟩ := k6 L hL hS
    exact ⟨(h.row.trans k).trans hR, hL.1.trans hsz, (perm_all (by omega) hL k1).nodup_iff.2 hn, by have := h.a1; omega, by omega, h.b1, h.bN, l1,
      fun R hR2 hS2 => h.fin R (l2 R hR2 hS2).1 (l2 R hR2 hS2).2⟩
  · obtain ⟨l1, l2⟩ := k7 L hL hS
    exact ⟨(h.row.trans k).trans hR, hL.1.trans hsz, (perm_all (by omega) hL (by omega)).nodup_iff.2 hn, h.a1, k1, by have := h.b1; omega, h.bN, l1,
      fun R hR2 hS2 => h.fin R (l2 R hR2 hS2).1 (l2 R hR2 hS2).2⟩
end

set_option maxRecDepth 100000 in
set_option maxHeartbeats 8000000 in
theorem pdq_any (g o cap N : Nat) (hsz : N ≤ 49) : ∀ (n a b l : Nat) (d : Array Int) (w : World), b - a ≤ n → Sort.Holds (Value.int .u32) w g o d → d.size = N → d.toList.Nodup → a ≤ b → b ≤ N → l ≤ 1000 → Sort.Below Sort.ltInt a b d →
    Calls Try.prog 43 #[.slice (some ⟨g, o, none⟩) N cap, .int .i64 a, .int .i64 b, .int .i64 l] w (PdqAt g o a b d w) := by
  intro n
  induction n using Nat.strongRecOn with
  | _ n ih =>
    intro a b l d w hn hd hN hnd hab hb hl hlow
    have H0 : Hid (Pq w g o N a b d a b d w) := Lib.hid ⟨Sr.start hd, hN, hnd, Nat.le_refl _, hab, Nat.le_refl _, hb, hlow, fun R h1 h2 => ⟨h1, h2⟩⟩
    have IH := Lib.hid ih
    clear hd hN hnd hlow ih
    go_enter Try.func43, Try.ntmps43
    go_wp2
    go_loopw [1, 2, 3, 8, 9] (fun s1 s2 s3 s8 s9 wr => ∃ (a' b' l' : Nat) (wb wp : Bool) (e : Array Int), s1 = .int .i64 a' ∧ s2 = .int .i64 b' ∧ s3 = .int .i64 l' ∧ s8 = .bool wb ∧ s9 = .bool wp ∧ l' ≤ 1000 ∧ b' - a' ≤ n ∧ Pq w g o N a b d a' b' e wr) (fun s1 s2 _ _ _ _ => (numOf s2 - numOf s1).toNat)
    case atStart => exact ⟨a, b, l, true, true, d, rfl, rfl, rfl, rfl, rfl, hl, hn, H0.out⟩
    case round =>
      obtain ⟨a', b', l', wb, wp, e, rfl, rfl, rfl, rfl, rfl, hl', hn', hQ⟩ := hrel
      have HQ := Lib.hid hQ
      have ha1 := hQ.a1
      have hab' := hQ.ab
      have hb1 := hQ.b1
      have hes := hQ.size
      have HE := Lib.hid hes
      clear hQ hes
      obtain ⟨k, hk⟩ : ∃ k : Nat, b' - a' = k := ⟨_, rfl⟩
      have hkI : (b' : Int) - (a' : Int) = (k : Int) := by omega
      have HK := Lib.hid hkI
      have hkN : k ≤ 49 := by omega
      have hak : a' + k = b' := by omega
      clear hk hkI
      go_upto_region 3 with fail
      rw [HK.out]
      by_cases hk12 : k ≤ 12
      · have q3 : decide ((k : Int) ≤ 12) = true := decide_eq_true (by omega)
        have X := Lib.hid (insertion_any g o cap a' b' N e wr HQ.out.row.row HE.out hab' (by omega) (by omega))
        go_wp2_with (go_at_call 45; (with_reducible refine X.out.mono ?_); rintro e2 w2 ⟨rfl, h2⟩)
        (try simp only [Exit.inBlock, Exit.then])
        refine bodyPost_ret (results_none rfl _ _ _) rfl ?_
        have hi := Sort.insertionSort_holds Sort.swo_ltInt e a' b' hab' (by rw [HE.out]; omega)
        exact HQ.out.end hi.1 hi.2 h2
      · have q3 : decide ((k : Int) ≤ 12) = false := decide_eq_false (by omega)
        by_cases hl0 : l' = 0
        · subst hl0
          have X := Lib.hid (heap_any g o cap a' b' N e wr HQ.out.row.row HE.out (by omega) (by omega) (by omega))
          go_wp2_with (go_at_call 46; (with_reducible refine X.out.mono ?_); rintro e2 w2 ⟨rfl, h2⟩)
          (try simp only [Exit.inBlock, Exit.then])
          refine bodyPost_ret (results_none rfl _ _ _) rfl ?_
          have hi := Sort.heapSort_holds Sort.swo_ltInt e a' b' hab' (by rw [HE.out]; omega)
          exact HQ.out.end hi.1 hi.2 h2
        · have q5 : ((l' : Int) == 0) = false := by simp; omega
          go_upto_if 35 with fail
          go_cut [3] (fun s3 wx => ∃ (l2 : Nat) (e2 : Array Int), s3 = .int .i64 l2 ∧ l2 ≤ 1000 ∧ Pq w g o N a b d a' b' e2 wx)
          · cases wb with
            | true =>
              go_wp2
              go_meet
              case rel => exact ⟨l', e, rfl, hl', HQ.out⟩
            | false =>
              have X := Lib.hid (break_any g o cap a' b' N e wr HQ.out.row.row HE.out (by omega) (by omega) hsz)
              go_wp2_with (go_at_call 47; (with_reducible refine X.out.mono ?_); rintro e2 w2 ⟨e3, rfl, h1, h2⟩; (have H1 := Lib.hid (HQ.out.perm h1 h2)); clear h1 h2)
              go_meet
              case rel => exact ⟨l' - 1, e3, by congr 1; omega, by omega, H1.out⟩
          case rest =>
            clear HQ HE q5 hl0 hl'
            obtain ⟨l2, e2, rfl, hl2, hQ⟩ := hcut
            have HQ := Lib.hid hQ
            have HE := Lib.hid hQ.size
            clear hQ
            have X := Lib.hid (pivot_any g o cap a' b' N e2 wc HQ.out.row.row HE.out (by omega) (by omega) hsz)
            go_upto_if 50 with (go_at_call 48; (with_reducible refine X.out.mono ?_); rintro e3 w3 ⟨p, h, rfl, hp1, hp2, hh, h2⟩; (have HQ3 := Lib.hid (HQ.out.same h2)); clear h2)
            clear HQ X
            go_cut [11, 12] (fun s11 s12 wx => ∃ (p : Nat) (h : Int) (e3 : Array Int), s11 = .int .i64 p ∧ s12 = .int .i64 h ∧ a' ≤ p ∧ p < b' ∧ Pq w g o N a b d a' b' e3 wx)
            · by_cases h2 : h = 2
              · subst h2
                clear hh
                have X := Lib.hid (reverse_any g o cap a' b' N e2 w3 HQ3.out.row.row HE.out (by omega) (by omega) (by omega))
                go_wp2_with (go_at_call 49; (with_reducible refine X.out.mono ?_); rintro e4 w4 ⟨e5, rfl, h1, h2⟩; (have H1 := Lib.hid (HQ3.out.perm h1 h2)); clear h1 h2)
                go_meet
                case rel => exact ⟨b' - 1 - (p - a'), 1, e5, by congr 1; omega, rfl, by omega, by omega, H1.out⟩
              · have q6 : (h == 2) = false := by simp [h2]
                clear hh h2
                go_wp2
                go_meet
                case rel => exact ⟨p, h, e2, rfl, rfl, hp1, hp2, HQ3.out⟩
            case rest =>
              clear HQ3 HE hp1 hp2 hh
              obtain ⟨p, h, e3, rfl, rfl, hp1, hp2, hQ⟩ := hcut
              have HQ := Lib.hid hQ
              have HE := Lib.hid hQ.size
              clear hQ
              go_upto_region 15 with fail
              have hcase : (wb = true ∧ wp = true ∧ h = 1) ∨ wb = false ∨ (wb = true ∧ wp = false) ∨ (wb = true ∧ wp = true ∧ (h == 1) = false) := by
                cases wb <;> cases wp <;> by_cases h1 : h = 1 <;> simp [h1]
              have goOn : Hid (∃ W4, wc = W4 ∧ Pq w g o N a b d a' b' e3 W4) := Lib.hid ⟨_, rfl, HQ.out⟩
              rcases hcase with ⟨rfl, rfl, rfl⟩ | rfl | ⟨rfl, rfl⟩ | ⟨rfl, rfl, q7⟩
              · have X := Lib.hid (partial_any g o cap a' b' N e3 wc HQ.out.row.row HE.out (by omega) (by omega) hsz)
                go_upto_if 72 with (go_at_call 50; (with_reducible refine X.out.mono ?_); rintro e4 w4 ⟨ok, rfl, hs, n4, hw4⟩; (have HS4 := Lib.hid hs); (have HQ4 : Hid (Pq w g o N a b d a' b' e3 w4) := Lib.hid (by rw [hw4]; exact HQ.out.drewN n4)); clear hs hw4)
                cases ok with
                | true =>
                  go_wp2
                  (try simp only [Exit.inBlock, Exit.then])
                  refine bodyPost_ret (results_none rfl _ _ _) rfl ?_
                  exact HQ4.out.end (Sort.permIn_refl _ _ _) (HS4.out (by first | rfl | trivial)) (Sr.start HQ4.out.row.row)
                | false =>
                  clear HQ X HS4 goOn
                  go_upto_region 17 with fail
                  obtain ⟨x, hx⟩ : ∃ x, e3[a' - 1]! = x := ⟨_, rfl⟩
                  obtain ⟨y, hy⟩ : ∃ y, e3[p]! = y := ⟨_, rfl⟩
                  have c2 := HQ4.out.row.cell (i := p) (by have := HE.out; omega)
                  rw [hy] at c2
                  have hpN : p < N := by omega
                  have X := Lib.hid (fun W hW => partition_any g o cap a' b' p N e3 W hW HE.out hp1 hp2 (by omega) (by omega))
                  by_cases ha0 : 0 < a'
                  all_goals
                    first
                    | (have hlt : Sort.ltInt x y = true := by rw [← hx, ← hy]; exact HQ4.out.less ha0 hp1 hp2
                       have c1 := HQ4.out.row.cell (i := a' - 1) (by have := HE.out; omega)
                       rw [hx] at c1
                       have haN : a' - 1 < N := by omega
                       have q9 : decide (0 < (a' : Int)) = true := decide_eq_true (by omega)
                       obtain ⟨a1, ha1'⟩ : ∃ a1, a' - 1 = a1 := ⟨_, rfl⟩
                       rw [ha1'] at c1 haN
                       have w9 : IntKind.i64.wrap ((a' : Int) - 1) = (a1 : Int) := by rw [IntKind.wrap_i64]; omega
                       clear hx hy ha1'
                       go_quiet (first | (go_at_call 51; refine Calls.quiet_of_same (less_any _ _ _))))
                    | (have q9 : decide (0 < (a' : Int)) = false := decide_eq_false (by omega)
                       clear hx hy
                       go_quiet (fail))
                    clear c2
                    have HQ5 := Lib.hid (HQ4.out.drewN nq)
                    generalize w4.drewN nq = w5 at HQ5 ⊢
                    clear HQ4
                    go_upto_region 21 with (go_at_call 53; (with_reducible refine (X.out _ HQ5.out.row.row).mono ?_); rintro e6 w6 ⟨m, ap, rfl, hm, h2⟩; (have P6 := Lib.hid (HQ5.out.part hp1 hp2 hm h2)); clear hm h2)
                    have ham := P6.out.am
                    have hmb := P6.out.mb
                    generalize (Sort.partition Sort.ltInt e3 a' b' p).2.2 = e4 at P6
                    clear X HQ5
                    by_cases hlr : m - a' < b' - m
                    · have q10 : decide ((m : Int) - (a' : Int) < (b' : Int) - (m : Int)) = true := decide_eq_true (by omega)
                      have Y := Lib.hid (IH.out (m - a') (by omega) a' m l2 e4 w6 (Nat.le_refl _) P6.out.row.row P6.out.size P6.out.nd P6.out.am (by omega) hl2 P6.out.l1)
                      go_wp2_with (go_at_call 43; (with_reducible refine Y.out.mono ?_); rintro e7 w7 ⟨f, rfl, h1, h2, h3⟩; (have Q7 := Lib.hid (P6.out.left f w7 h1 h2 h3)); clear h1 h2 h3)
                      go_roundw
                      case rel => exact ⟨m + 1, b', l2, _, ap, f, by go_num, rfl, rfl, rfl, rfl, hl2, by omega, Q7.out⟩
                      case measure => (try simp [numOf]) <;> (try omega)
                    · have q10 : decide ((m : Int) - (a' : Int) < (b' : Int) - (m : Int)) = false := decide_eq_false (by omega)
                      have Y := Lib.hid (show Calls Try.prog 43 #[_, .int .i64 ((m : Int) + 1), _, _] _ _ from IH.out (b' - (m + 1)) (by omega) (m + 1) b' l2 e4 w6 (Nat.le_refl _) P6.out.row.row P6.out.size P6.out.nd (by omega) (by omega) hl2 P6.out.l2)
                      go_wp2_with (go_at_call 43; (with_reducible refine Y.out.mono ?_); rintro e7 w7 ⟨f, rfl, h1, h2, h3⟩; (have Q7 := Lib.hid (P6.out.right f w7 h1 h2 h3)); clear h1 h2 h3)
                      go_roundw
                      case rel => exact ⟨a', m, l2, _, ap, f, rfl, rfl, rfl, rfl, rfl, hl2, by omega, Q7.out⟩
                      case measure => (try simp [numOf]) <;> (try omega)
              all_goals
                clear goOn
                go_upto_region 17 with fail
                have HQ4 := Lib.hid HQ.out
                generalize wc = w4 at HQ4 ⊢
                clear HQ
                obtain ⟨x, hx⟩ : ∃ x, e3[a' - 1]! = x := ⟨_, rfl⟩
                obtain ⟨y, hy⟩ : ∃ y, e3[p]! = y := ⟨_, rfl⟩
                have c2 := HQ4.out.row.cell (i := p) (by have := HE.out; omega)
                rw [hy] at c2
                have hpN : p < N := by omega
                have X := Lib.hid (fun W hW => partition_any g o cap a' b' p N e3 W hW HE.out hp1 hp2 (by omega) (by omega))
                by_cases ha0 : 0 < a'
                all_goals
                  first
                  | (have hlt : Sort.ltInt x y = true := by rw [← hx, ← hy]; exact HQ4.out.less ha0 hp1 hp2
                     have c1 := HQ4.out.row.cell (i := a' - 1) (by have := HE.out; omega)
                     rw [hx] at c1
                     have haN : a' - 1 < N := by omega
                     have q9 : decide (0 < (a' : Int)) = true := decide_eq_true (by omega)
                     obtain ⟨a1, ha1'⟩ : ∃ a1, a' - 1 = a1 := ⟨_, rfl⟩
                     rw [ha1'] at c1 haN
                     have w9 : IntKind.i64.wrap ((a' : Int) - 1) = (a1 : Int) := by rw [IntKind.wrap_i64]; omega
                     clear hx hy ha1'
                     go_quiet (first | (go_at_call 51; refine Calls.quiet_of_same (less_any _ _ _))))
                  | (have q9 : decide (0 < (a' : Int)) = false := decide_eq_false (by omega)
                     clear hx hy
                     go_quiet (fail))
                  clear c2
                  have HQ5 := Lib.hid (HQ4.out.drewN nq)
                  generalize w4.drewN nq = w5 at HQ5 ⊢
                  clear HQ4
                  go_upto_region 21 with (go_at_call 53; (with_reducible refine (X.out _ HQ5.out.row.row).mono ?_); rintro e6 w6 ⟨m, ap, rfl, hm, h2⟩; (have P6 := Lib.hid (HQ5.out.part hp1 hp2 hm h2)); clear hm h2)
                  have ham := P6.out.am
                  have hmb := P6.out.mb
                  generalize (Sort.partition Sort.ltInt e3 a' b' p).2.2 = e4 at P6
                  clear X HQ5
                  by_cases hlr : m - a' < b' - m
                  · have q10 : decide ((m : Int) - (a' : Int) < (b' : Int) - (m : Int)) = true := decide_eq_true (by omega)
                    have Y := Lib.hid (IH.out (m - a') (by omega) a' m l2 e4 w6 (Nat.le_refl _) P6.out.row.row P6.out.size P6.out.nd P6.out.am (by omega) hl2 P6.out.l1)
                    go_wp2_with (go_at_call 43; (with_reducible refine Y.out.mono ?_); rintro e7 w7 ⟨f, rfl, h1, h2, h3⟩; (have Q7 := Lib.hid (P6.out.left f w7 h1 h2 h3)); clear h1 h2 h3)
                    go_roundw
                    case rel => exact ⟨m + 1, b', l2, _, ap, f, by go_num, rfl, rfl, rfl, rfl, hl2, by omega, Q7.out⟩
                    case measure => (try simp [numOf]) <;> (try omega)
                  · have q10 : decide ((m : Int) - (a' : Int) < (b' : Int) - (m : Int)) = false := decide_eq_false (by omega)
                    have Y := Lib.hid (show Calls Try.prog 43 #[_, .int .i64 ((m : Int) + 1), _, _] _ _ from IH.out (b' - (m + 1)) (by omega) (m + 1) b' l2 e4 w6 (Nat.le_refl _) P6.out.row.row P6.out.size P6.out.nd (by omega) (by omega) hl2 P6.out.l2)
                    go_wp2_with (go_at_call 43; (with_reducible refine Y.out.mono ?_); rintro e7 w7 ⟨f, rfl, h1, h2, h3⟩; (have Q7 := Lib.hid (P6.out.right f w7 h1 h2 h3)); clear h1 h2 h3)
                    go_roundw
                    case rel => exact ⟨a', m, l2, _, ap, f, rfl, rfl, rfl, rfl, rfl, hl2, by omega, Q7.out⟩
                    case measure => (try simp [numOf]) <;> (try omega)
end Go.Proofs.Ytfeipeninmclkaa
