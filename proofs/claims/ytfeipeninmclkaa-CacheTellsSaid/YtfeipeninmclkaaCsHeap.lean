/-
  What is proved: slices.siftDownOrdered and heapSortOrdered at addresses by contract: the row's part is sorted, as the plain function says.
  Conditions: the part lies in the row.
-/
import Derived.Test.YtfeipeninmclkaaCsIns
namespace Go.Proofs.Ytfeipeninmclkaa
open Go.RowKit

section
variable {α : Type} [Inhabited α] (lt : α → α → Bool)
theorem sift_out (hi first r : Nat) (d : Array α) (h : hi ≤ 2 * r + 1) : Sort.siftDown lt hi first r d = d := by
  rw [Sort.siftDown]
  simp [h]
/-- The child that counts. -/
def Kid (hi first r m : Nat) (d : Array α) : Prop :=
  2 * r + 1 < hi ∧ ((m = 2 * r + 1 ∧ (2 * r + 2 < hi → lt d[first + (2 * r + 1)]! d[first + (2 * r + 2)]! = false)) ∨ (m = 2 * r + 2 ∧ 2 * r + 2 < hi ∧ lt d[first + (2 * r + 1)]! d[first + (2 * r + 2)]! = true))
theorem sift_no {hi first r m : Nat} {d : Array α} (h : Kid lt hi first r m d) (hl : lt d[first + r]! d[first + m]! = false) : Sort.siftDown lt hi first r d = d := by
  obtain ⟨h0, ⟨rfl, h1⟩ | ⟨rfl, h1, h2⟩⟩ := h
  · rw [Sort.siftDown]
    have n0 : ¬ 2 * r + 1 ≥ hi := by omega
    by_cases k : 2 * r + 2 < hi
    · have h1 := h1 k
      have e : first + (2 * r + 1) + 1 = first + (2 * r + 2) := by omega
      simp [n0, e, h1, hl]
    · have k' : ¬ 2 * r + 1 + 1 < hi := by omega
      simp [n0, k', hl]
  · rw [Sort.siftDown]
    have n0 : ¬ 2 * r + 1 ≥ hi := by omega
    have e : first + (2 * r + 1) + 1 = first + (2 * r + 2) := by omega
    have k' : 2 * r + 1 + 1 < hi := by omega
    simp [n0, e, k', h2, hl]
theorem sift_yes {hi first r m : Nat} {d : Array α} (h : Kid lt hi first r m d) (hl : lt d[first + r]! d[first + m]! = true) : Sort.siftDown lt hi first r d = Sort.siftDown lt hi first m (Sort.swp d (first + r) (first + m)) := by
  obtain ⟨h0, ⟨rfl, h1⟩ | ⟨rfl, h1, h2⟩⟩ := h
  · conv => lhs; rw [Sort.siftDown]
    have n0 : ¬ 2 * r + 1 ≥ hi := by omega
    by_cases k : 2 * r + 2 < hi
    · have h1 := h1 k
      have e : first + (2 * r + 1) + 1 = first + (2 * r + 2) := by omega
      simp [n0, e, h1, hl]
    · have k' : ¬ 2 * r + 1 + 1 < hi := by omega
      simp [n0, k', hl]
  · conv => lhs; rw [Sort.siftDown]
    have n0 : ¬ 2 * r + 1 ≥ hi := by omega
    have e : first + (2 * r + 1) + 1 = first + (2 * r + 2) := by omega
    have k' : 2 * r + 1 + 1 < hi := by omega
    simp [n0, e, k', h2, hl]
end

set_option maxRecDepth 100000 in
set_option maxHeartbeats 2000000 in
theorem sift_any (g o cap lo hi first N : Nat) (d : Array Int) (w : World) (hd : Sort.Holds (Value.int .u32) w g o d) (hN : d.size = N) (hb : first + hi ≤ N) (hlo : lo ≤ 1000000) (hsz : N ≤ 1000000) :
    Calls Try.prog 56 #[.slice (some ⟨g, o, none⟩) N cap, .int .i64 lo, .int .i64 hi, .int .i64 first] w fun e w' =>
      e = .returned (.tuple #[]) ∧ Sr w g o (Sort.siftDown Sort.ltInt hi first lo d) w' := by
  have H0 := Lib.hid (Sr.start hd)
  have HN := Lib.hid hN
  clear hd hN
  go_enter Try.func56, Try.ntmps56
  go_wp2
  go_loopw [8] (fun vr wr => ∃ (r : Nat) (e : Array Int), vr = .int .i64 r ∧ r ≤ 1000000 ∧ e.size = N ∧ Sr w g o e wr ∧ Sort.siftDown Sort.ltInt hi first r e = Sort.siftDown Sort.ltInt hi first lo d) (fun vr _ => 1000001 - (numOf vr).toNat)
  case atStart => exact ⟨lo, d, rfl, by omega, HN.out, H0.out, rfl⟩
  case round =>
    obtain ⟨r, e, rfl, hr1, he, hS, hO⟩ := hrel
    have HS := Lib.hid hS
    have HO := Lib.hid hO
    have HE := Lib.hid he
    clear hS hO he
    obtain ⟨c, hc⟩ : ∃ c : Nat, 2 * r + 1 = c := ⟨_, rfl⟩
    have hcI : 2 * (r : Int) + 1 = (c : Int) := by omega
    have HC := Lib.hid hc
    have HCI := Lib.hid hcI
    clear hc hcI
    go_upto_region 2 with fail
    rw [HCI.out]
    by_cases hlt : c < hi
    · have q1 : decide ((hi : Int) ≤ (c : Int)) = false := decide_eq_false (by omega)
      obtain ⟨u, hu⟩ : ∃ u : Nat, first + c = u := ⟨_, rfl⟩
      obtain ⟨s, hs⟩ : ∃ s : Nat, first + r = s := ⟨_, rfl⟩
      have w1 : IntKind.i64.wrap ((first : Int) + (c : Int)) = (u : Int) := by rw [IntKind.wrap_i64]; omega
      have w2 : IntKind.i64.wrap ((first : Int) + (r : Int)) = (s : Int) := by rw [IntKind.wrap_i64]; have := HC.out; omega
      have w3 : IntKind.i64.wrap ((u : Int) + 1) = (u : Int) + 1 := by rw [IntKind.wrap_i64]; omega
      have w4 : IntKind.i64.wrap ((c : Int) + 1) = (c : Int) + 1 := by rw [IntKind.wrap_i64]; omega
      have huN : u < N := by omega
      have hsN : s < N := by have := HC.out; omega
      obtain ⟨x, hx⟩ : ∃ x, e[u]! = x := ⟨_, rfl⟩
      obtain ⟨z, hz⟩ : ∃ z, e[s]! = z := ⟨_, rfl⟩
      have c1 := HS.out.cell (i := u) (by have := HE.out; omega)
      have c3 := HS.out.cell (i := s) (by have := HE.out; omega)
      have f1 := HS.out.free (i := u) (by have := HE.out; omega)
      have f3 := HS.out.free (i := s) (by have := HE.out; omega)
      rw [hx] at c1
      rw [hz] at c3
      have Hu := Lib.hid hu
      have Hs := Lib.hid hs
      have Hx := Lib.hid hx
      have Hz := Lib.hid hz
      clear hx hz hu hs
      by_cases h2 : c + 1 < hi
      · have q2 : decide ((c : Int) + 1 < (hi : Int)) = true := decide_eq_true (by omega)
        obtain ⟨y, hy⟩ : ∃ y, e[u + 1]! = y := ⟨_, rfl⟩
        have hu1N : u + 1 < N := by have := Hu.out; omega
        have c2 := HS.out.cell (i := u + 1) (by have := HE.out; omega)
        have f2 := HS.out.free (i := u + 1) (by have := HE.out; omega)
        rw [hy] at c2
        have Hy := Lib.hid hy
        clear hy
        go_upto_region 3 with fail
        by_cases hl : Sort.ltInt x y = true
        · go_quiet (first | (go_at_call 51; refine Calls.quiet_of_same (less_any _ _ _)))
          go_upto_region 5 with fail
          have HQ := Lib.hid (HS.out.drewN nq)
          generalize wr.drewN nq = W at HQ ⊢
          clear c1 c3 f1 f3 c2 f2
          obtain ⟨m, hm⟩ : ∃ m : Nat, c + 1 = m := ⟨_, rfl⟩
          rw [show (c : Int) + 1 = (m : Int) by omega]
          obtain ⟨v, hv⟩ : ∃ v : Nat, first + m = v := ⟨_, rfl⟩
          have hvN : v < N := by have := Hu.out; omega
          have w5 : IntKind.i64.wrap ((first : Int) + (m : Int)) = (v : Int) := by rw [IntKind.wrap_i64]; omega
          have hm1 : m ≤ 1000000 := by omega
          obtain ⟨t, ht⟩ : ∃ t, e[v]! = t := ⟨_, rfl⟩
          have d1 := HQ.out.cell (i := v) (by have := HE.out; omega)
          have d2 := HQ.out.cell (i := s) (by have := HE.out; omega)
          have g1 := HQ.out.free (i := v) (by have := HE.out; omega)
          have g2 := HQ.out.free (i := s) (by have := HE.out; omega)
          have HW := Lib.hid (fun q => HQ.out.swp (i := s) (j := v) (by have := HE.out; omega) (by have := HE.out; omega) q)
          rw [ht] at d1 HW
          rw [Hz.out] at d2 HW
          have KD : Hid (Kid Sort.ltInt hi first r m e) := Lib.hid (⟨by have := HC.out; omega, .inr ⟨by have := HC.out; omega, by have := HC.out; omega, by have e1 := HC.out; rw [e1, show first + (2 * r + 2) = u + 1 by have := Hu.out; omega, Hu.out, Hx.out, Hy.out]; exact hl⟩⟩)
          have Ht := Lib.hid ht
          have Hv := Lib.hid hv
          have Hm := Lib.hid (show r < m by have := HC.out; omega)
          have hne : ¬ s = v := by have := Hm.out; have := Hs.out; omega
          have hne' : ¬ v = s := fun h => hne h.symm
          clear ht hv hm w1
          by_cases hk : Sort.ltInt z t = true
          · go_quiet (first | (go_at_call 51; refine Calls.quiet_of_same (less_any _ _ _)))
            go_wp2
            go_region
            all_goals
              go_wp2
              go_roundw
              case rel => exact ⟨m, Sort.swp e s v, rfl, hm1, by rw [swp_size]; exact HE.out, HW.out (nq + 1), by rw [← HO.out, sift_yes _ KD.out (by rw [Hs.out, Hv.out, Hz.out, Ht.out]; exact hk), Hs.out, Hv.out]⟩
              case measure => simp [numOf]; have := Hm.out; omega
          · have hk : Sort.ltInt z t = false := by simpa using hk
            go_quiet (first | (go_at_call 51; refine Calls.quiet_of_same (less_any _ _ _)))
            go_wp2
            (try simp only [Exit.inBlock, Exit.then])
            refine bodyPost_ret (results_none rfl _ _ _) rfl ?_
            refine ⟨rfl, ?_⟩
            rw [← HO.out, sift_no _ KD.out (by rw [Hs.out, Hv.out, Hz.out, Ht.out]; exact hk)]
            exact HQ.out.drewN nq
        · have hl : Sort.ltInt x y = false := by simpa using hl
          go_quiet (first | (go_at_call 51; refine Calls.quiet_of_same (less_any _ _ _)))
          go_upto_region 5 with fail
          have HQ := Lib.hid (HS.out.drewN nq)
          generalize wr.drewN nq = W at HQ ⊢
          clear c1 c3 f1 f3 c2 f2
          obtain ⟨m, hm⟩ : ∃ m : Nat, c = m := ⟨_, rfl⟩
          rw [show (c : Int) = (m : Int) by omega]
          obtain ⟨v, hv⟩ : ∃ v : Nat, first + m = v := ⟨_, rfl⟩
          have hvN : v < N := by have := Hu.out; omega
          have w5 : IntKind.i64.wrap ((first : Int) + (m : Int)) = (v : Int) := by rw [IntKind.wrap_i64]; omega
          have hm1 : m ≤ 1000000 := by omega
          obtain ⟨t, ht⟩ : ∃ t, e[v]! = t := ⟨_, rfl⟩
          have d1 := HQ.out.cell (i := v) (by have := HE.out; omega)
          have d2 := HQ.out.cell (i := s) (by have := HE.out; omega)
          have g1 := HQ.out.free (i := v) (by have := HE.out; omega)
          have g2 := HQ.out.free (i := s) (by have := HE.out; omega)
          have HW := Lib.hid (fun q => HQ.out.swp (i := s) (j := v) (by have := HE.out; omega) (by have := HE.out; omega) q)
          rw [ht] at d1 HW
          rw [Hz.out] at d2 HW
          have KD : Hid (Kid Sort.ltInt hi first r m e) := Lib.hid (⟨by have := HC.out; omega, .inl ⟨by have := HC.out; omega, fun _ => by have e1 := HC.out; rw [e1, show first + (2 * r + 2) = u + 1 by have := Hu.out; omega, Hu.out, Hx.out, Hy.out]; exact hl⟩⟩)
          have Ht := Lib.hid ht
          have Hv := Lib.hid hv
          have Hm := Lib.hid (show r < m by have := HC.out; omega)
          have hne : ¬ s = v := by have := Hm.out; have := Hs.out; omega
          have hne' : ¬ v = s := fun h => hne h.symm
          clear ht hv hm w1
          by_cases hk : Sort.ltInt z t = true
          · go_quiet (first | (go_at_call 51; refine Calls.quiet_of_same (less_any _ _ _)))
            go_wp2
            go_region
            all_goals
              go_wp2
              go_roundw
              case rel => exact ⟨m, Sort.swp e s v, rfl, hm1, by rw [swp_size]; exact HE.out, HW.out (nq + 1), by rw [← HO.out, sift_yes _ KD.out (by rw [Hs.out, Hv.out, Hz.out, Ht.out]; exact hk), Hs.out, Hv.out]⟩
              case measure => simp [numOf]; have := Hm.out; omega
          · have hk : Sort.ltInt z t = false := by simpa using hk
            go_quiet (first | (go_at_call 51; refine Calls.quiet_of_same (less_any _ _ _)))
            go_wp2
            (try simp only [Exit.inBlock, Exit.then])
            refine bodyPost_ret (results_none rfl _ _ _) rfl ?_
            refine ⟨rfl, ?_⟩
            rw [← HO.out, sift_no _ KD.out (by rw [Hs.out, Hv.out, Hz.out, Ht.out]; exact hk)]
            exact HQ.out.drewN nq
      · have q2 : decide ((c : Int) + 1 < (hi : Int)) = false := decide_eq_false (by omega)
        go_upto_region 3 with fail
        go_quiet (fail)
        go_upto_region 5 with fail
        have HQ := Lib.hid (HS.out.drewN nq)
        generalize wr.drewN nq = W at HQ ⊢
        clear c1 c3 f1 f3 
        obtain ⟨m, hm⟩ : ∃ m : Nat, c = m := ⟨_, rfl⟩
        rw [show (c : Int) = (m : Int) by omega]
        obtain ⟨v, hv⟩ : ∃ v : Nat, first + m = v := ⟨_, rfl⟩
        have hvN : v < N := by have := Hu.out; omega
        have w5 : IntKind.i64.wrap ((first : Int) + (m : Int)) = (v : Int) := by rw [IntKind.wrap_i64]; omega
        have hm1 : m ≤ 1000000 := by omega
        obtain ⟨t, ht⟩ : ∃ t, e[v]! = t := ⟨_, rfl⟩
        have d1 := HQ.out.cell (i := v) (by have := HE.out; omega)
        have d2 := HQ.out.cell (i := s) (by have := HE.out; omega)
        have g1 := HQ.out.free (i := v) (by have := HE.out; omega)
        have g2 := HQ.out.free (i := s) (by have := HE.out; omega)
        have HW := Lib.hid (fun q => HQ.out.swp (i := s) (j := v) (by have := HE.out; omega) (by have := HE.out; omega) q)
        rw [ht] at d1 HW
        rw [Hz.out] at d2 HW
        have KD : Hid (Kid Sort.ltInt hi first r m e) := Lib.hid (⟨by have := HC.out; omega, .inl ⟨by have := HC.out; omega, fun h => by have := HC.out; omega⟩⟩)
        have Ht := Lib.hid ht
        have Hv := Lib.hid hv
        have Hm := Lib.hid (show r < m by have := HC.out; omega)
        have hne : ¬ s = v := by have := Hm.out; have := Hs.out; omega
        have hne' : ¬ v = s := fun h => hne h.symm
        clear ht hv hm w1
        by_cases hk : Sort.ltInt z t = true
        · go_quiet (first | (go_at_call 51; refine Calls.quiet_of_same (less_any _ _ _)))
          go_wp2
          go_region
          all_goals
            go_wp2
            go_roundw
            case rel => exact ⟨m, Sort.swp e s v, rfl, hm1, by rw [swp_size]; exact HE.out, HW.out (nq + 1), by rw [← HO.out, sift_yes _ KD.out (by rw [Hs.out, Hv.out, Hz.out, Ht.out]; exact hk), Hs.out, Hv.out]⟩
            case measure => simp [numOf]; have := Hm.out; omega
        · have hk : Sort.ltInt z t = false := by simpa using hk
          go_quiet (first | (go_at_call 51; refine Calls.quiet_of_same (less_any _ _ _)))
          go_wp2
          (try simp only [Exit.inBlock, Exit.then])
          refine bodyPost_ret (results_none rfl _ _ _) rfl ?_
          refine ⟨rfl, ?_⟩
          rw [← HO.out, sift_no _ KD.out (by rw [Hs.out, Hv.out, Hz.out, Ht.out]; exact hk)]
          exact HQ.out.drewN nq
    · have q1 : decide ((hi : Int) ≤ (c : Int)) = true := decide_eq_true (by omega)
      go_wp2
      go_end0
      refine ⟨rfl, ?_⟩
      rw [← HO.out, sift_out _ _ _ _ _ (by have := HC.out; omega)]
      exact HS.out
end Go.Proofs.Ytfeipeninmclkaa
