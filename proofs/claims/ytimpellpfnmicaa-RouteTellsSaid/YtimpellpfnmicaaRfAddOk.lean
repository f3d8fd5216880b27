/-
  What is proved: the document's Add of a right route by contract.
  Conditions: the route's numbers fit their types.
-/
import Derived.Test.YtimpellpfnmicaaRfApp
import Derived.Test.YtimpellpfnmicaaRgTail
import Derived.Deep.DeepCutAuto
namespace Go.Proofs.Ytimpellpfnmicaa
open Go.RowKit

theorem RdR.one {W : World} {k : Nat} {r : Rt} (h : RtAt W k r) : RdR W (.slice (some ⟨k, 0, none⟩) 1 1) [r] :=
  ⟨_, 1, rfl, fun j t hj => by
    cases j with
    | zero =>
      obtain rfl : r = t := by simpa using hj
      exact ⟨k, 0, rfl, by simpa using h.c0, by simpa using h.c1, by simpa using h.c2, by simpa using h.c3⟩
    | succ j => simp at hj⟩
theorem RdR.front {W : World} {A : Option Addr} {L : List Rt} (h : RtsIn W A L) {k : Nat} (hk : k ≤ L.length) (c : Nat) : RdR W (.slice A k c) (L.take k) :=
  ⟨A, c, by rw [List.length_take, Nat.min_eq_left hk], fun j t hj => by
    rw [List.getElem?_take] at hj
    split at hj
    · exact h j t hj
    · cases hj⟩
theorem RdR.behind {W : World} {g o : Nat} {L : List Rt} (h : RtsIn W (some ⟨g, o, none⟩) L) {k : Nat} (c : Nat) {A : Option Addr} (hA : k < L.length → A = some ⟨g, o + k * 4, none⟩) : RdR W (.slice A (L.length - k) c) (L.drop k) :=
  ⟨A, c, by rw [List.length_drop], fun j t hj => by
    rw [List.getElem?_drop] at hj
    obtain ⟨g', o', e, c0, c1, c2, c3⟩ := h (k + j) t hj
    cases e
    have hlt := (List.getElem?_eq_some_iff.1 hj).1
    have e : o + k * 4 + j * 4 = o + (k + j) * 4 := by omega
    refine ⟨g, o + k * 4, hA (by omega), ?_, ?_, ?_, ?_⟩ <;> rw [e] <;> assumption⟩
/-- t.L = a row of one's own. -/
theorem Rf.stored {w W : World} {p B : Nat} {v : Value} {L L' : List Rt} {g c : Nat} {kx : Option Nat} {r : Rt} (h : Rf w p B v L) (hB : B ≤ w.heap.size) (hk : Rk w W g c L' kx r) (hs : Srt L') (hr : ∀ r ∈ L', r.Right) (h64 : L'.length ≤ 64) :
    Rf (W.setCell ⟨p, 0, none⟩ (.slice (some ⟨g, 0, none⟩) L'.length c)) p B (.slice (some ⟨g, 0, none⟩) L'.length c) L' ∧ Mv w (W.setCell ⟨p, 0, none⟩ (.slice (some ⟨g, 0, none⟩) L'.length c)) p v := by
  have hp := (hk.old.block p h.lt).trans h.blk
  have hpl := h.lt
  have hg : w.heap.size ≤ g := ownBlock_ge hk.row g rfl
  have hne : g ≠ p := by omega
  have he : (W.setCell ⟨p, 0, none⟩ (.slice (some ⟨g, 0, none⟩) L'.length c)).heap[g]? = W.heap[g]? := Below.heap_setCell _ _ _ _ hne
  obtain ⟨A, c', e, h1, h2, h3, h4, h5⟩ := row_of_owns hk.row
  cases e
  refine ⟨⟨by simp [World.setCell, Array.getElem?_modify, hp], ⟨_, c, rfl, h1, h2, fun k t ht => ?_, fun a ha => ?_, h5⟩, hs, hr, h64⟩, ⟨hk.old.os, hk.old.tape, hk.old.output, by simpa [World.setCell] using hk.old.size, fun k hk1 hk2 _ => ?_⟩⟩
  · obtain ⟨g', o, e, c0, c1, c2, c3⟩ := h3 k t ht
    cases e
    have hc : ∀ {i v}, W.cell? ⟨g, i, none⟩ = some v → (W.setCell ⟨p, 0, none⟩ (.slice (some ⟨g, 0, none⟩) L'.length c)).cell? ⟨g, i, none⟩ = some v := fun hi => by
      unfold World.cell? at *
      rw [he]
      exact hi
    exact ⟨g, 0, rfl, hc c0, hc c1, hc c2, hc c3⟩
  · cases ha
    obtain ⟨k1, k2, k3⟩ := h4 _ rfl
    exact ⟨Nat.le_trans hB k1, by simpa [World.setCell] using k2, fun j => (frozen_block he j).trans (k3 j)⟩
  · exact (Below.heap_setCell _ _ _ _ hk2).trans (hk.old.block k hk1)

set_option maxRecDepth 100000 in
set_option maxHeartbeats 4000000 in
theorem radd_ok (L : List Rt) (r : Rt) (hr : r.In) (hok : r.ok = true) (p B : Nat) (v : Value) (w : World) (h : Rf w p B v L) (hBw : B ≤ w.heap.size) :
    Calls Try.prog 11 #[.pointer (some ⟨p, 0, none⟩), .agg #[.int .u32 r.d, .int .i64 r.b, .int .u32 r.v, .int .i64 r.o]] w fun e w' => ∃ v', e = .returned (.int .i64 (if fullB L r then 5 else 0)) ∧ Rf w' p B v' (if fullB L r then L else putL L r) ∧ Mv w w' p v := by
  obtain ⟨cc, hcc⟩ : ∃ c : Int, (if fullB L r then (5 : Int) else 0) = c := ⟨_, rfl⟩
  obtain ⟨L', hL'⟩ : ∃ l : List Rt, (if fullB L r then L else putL L r) = l := ⟨_, rfl⟩
  rw [hcc, hL']
  have Hc := Lib.hid hcc
  have HL := Lib.hid hL'
  clear hcc hL'
  have hG := (Rt.ok_iff hr).1 hok
  obtain ⟨A, c, rfl, hc1, hc2, _, hFm⟩ := h.open2
  have HFm := Lib.hid hFm
  obtain ⟨z, hz⟩ := at_ex (L := L) r.d r.b
  have HF := Lib.hid (fun W hp hR => rlook_any L h.srt h.few r.d r.b z hz p A c hc1 W hp hR)
  have hcut := Lib.hid (fun W => rcut_any r.d r.b hr.d hr.b W)
  rw [hG.c] at hcut
  have B1 := Lib.hid ((Below.refl _ w).alloc (Nat.le_refl _) r.robj)
  have R1 := Lib.hid (RtAt.of_rheap (heap_alloc_new w r.robj))
  unfold Rt.robj at B1 R1
  have hb0 := hG.b0
  have hb1 := hG.b1
  have q1 : decide (r.b < 0) = false := decide_eq_false (by omega)
  have q2 : decide (32 < r.b) = false := decide_eq_false (by omega)
  have HG := Lib.hid hG
  have HH := Lib.hid h
  have HBw := Lib.hid hBw
  have h64 := h.few
  clear hFm hok hr h hG hBw hb0 hb1
  go_enter Try.func11, Try.ntmps11
  go_upto_region 1 with fail
  generalize w.alloc (Obj.cells #[Value.int IntKind.u32 r.d, Value.int IntKind.i64 r.b, Value.int IntKind.u32 r.v, Value.int IntKind.i64 r.o] 36) = w1 at B1 R1 ⊢
  generalize w.heap.size = g at R1 ⊢
  obtain ⟨c0, c1, c2, c3⟩ := R1.out
  go_quiet ((go_at_call 12; exact Calls.quiet_of_same (hcut.out _)))
  obtain ⟨w2, hw2⟩ : ∃ w2, w1.drewN nq = w2 := ⟨_, rfl⟩
  have B2 := Lib.hid (below_dN B1.out nq)
  have R2 := Lib.hid (R1.out.drewN nq)
  rw [hw2] at B2 R2 ⊢
  clear hw2 c0 c1 c2 c3 B1 R1 hcut q1 q2
  have H2 := Lib.hid (HH.out.below B2.out)
  obtain ⟨A', c', hv, _, _, hRI⟩ := H2.out.open
  obtain ⟨rfl, rfl⟩ : A = A' ∧ c = c' := by
    injection hv with h1 h2 h3
    exact ⟨h1, h3⟩
  have hp := H2.out.cell
  have RI := Lib.hid hRI
  have HF2 := Lib.hid (HF.out w2 hp RI.out)
  obtain ⟨c0, c1, c2, c3⟩ := R2.out
  clear hRI hv HF
  go_upto_region 4 with (go_at_call 22; refine HF2.out.mono ?_; rintro e w3 ⟨rfl, rfl⟩)
  clear HF2
  rcases hz with ⟨rfl, hno⟩ | ⟨k, s, rfl, hk, hsm⟩
  · have hlk := fun s hs => look_none.1 hno s hs
    have Hlk := Lib.hid hlk
    by_cases hfew : 64 ≤ L.length
    · have hf : Hid (fullB L r = true) := Lib.hid (by unfold fullB; rw [hno]; simp [hfew])
      have hd : decide (64 ≤ (L.length : Int)) = true := decide_eq_true (by omega)
      go_wp2_with fail
      go_ret
      have hc := Hc.out
      have hl' := HL.out
      rw [hf.out] at hc hl'
      subst hc hl'
      exact ⟨_, rfl, H2.out, Mv.of_below B2.out⟩
    · have hf : Hid (fullB L r = false) := Lib.hid (by unfold fullB; rw [hno]; simp [hfew])
      have hd : decide (64 ≤ (L.length : Int)) = false := decide_eq_false (by omega)
      clear hlk hno
      go_upto_block 0 with fail
      go_cut [6] (fun s6 wx => ∃ k : Nat, s6 = .int .i64 (k : Int) ∧ k ≤ L.length ∧ (∀ s ∈ L.take k, Lo s r) ∧ (∀ s, L[k]? = some s → Lo r s) ∧ Below w.heap.size w wx ∧ RtAt wx g r)
      case first =>
        go_wp2_with fail
        go_loopw [6] (fun s6 wr => ∃ k : Nat, s6 = .int .i64 (k : Int) ∧ k ≤ L.length ∧ (∀ s ∈ L.take k, Lo s r) ∧ Below w.heap.size w wr ∧ RtAt wr g r) (fun s6 _ => L.length - (intOf s6).toNat)
        case atStart => exact ⟨0, rfl, Nat.zero_le _, by simp, B2.out, R2.out⟩
        case round =>
          obtain ⟨k, rfl, hk, hlo, hB, hR⟩ := hrel
          clear c0 c1 c2 c3 hp H2 RI R2 hd
          have HB := Lib.hid hB
          have HR := Lib.hid hR
          have Hlo := Lib.hid hlo
          have H4 := Lib.hid (HH.out.below hB)
          have hp := H4.out.cell
          obtain ⟨c0, c1, c2, c3⟩ := hR
          clear hB hlo
          by_cases hlt : k < L.length
          · have q1 : decide ((k : Int) < (L.length : Int)) = true := decide_eq_true (by omega)
            obtain ⟨t, ht⟩ : ∃ t, L[k]? = some t := ⟨L[k], List.getElem?_eq_getElem hlt⟩
            obtain ⟨A', c', hv, _, _, hRI⟩ := H4.out.open
            obtain ⟨rfl, rfl⟩ : A = A' ∧ c = c' := by
              injection hv with h1 h2 h3
              exact ⟨h1, h3⟩
            obtain ⟨g2, o2, rfl, d0, d1, d2, d3⟩ := hRI k t ht
            have Hns := Lib.hid (Hlk.out t (List.mem_of_getElem? ht))
            have Ht := Lib.hid ht
            clear hRI hv ht
            by_cases h1 : t.d < r.d
            · have qa : decide (t.d < r.d) = true := decide_eq_true h1
              have HS : Hid (∀ s ∈ L.take (k + 1), Lo s r) := Lib.hid (fun s hs => by
                rcases (mem_take_succ Ht.out).1 hs with hs | rfl
                · exact Hlo.out s hs
                · exact .inl h1)
              clear h1
              go_upto_region 10 with fail
              go_quiet (fail)
              go_wp2_with fail
              exact ⟨⟨k + 1, by simp, by omega, HS.out, below_dN HB.out _, HR.out.drewN _⟩, by simp [intOf]; omega⟩
            · have qa : decide (t.d < r.d) = false := decide_eq_false h1
              by_cases h2 : t.d = r.d
              · have qb : (t.d == r.d) = true := beq_iff_eq.2 h2
                by_cases h3 : t.b < r.b
                · have qc : decide (t.b < r.b) = true := decide_eq_true h3
                  have HS : Hid (∀ s ∈ L.take (k + 1), Lo s r) := Lib.hid (fun s hs => by
                    rcases (mem_take_succ Ht.out).1 hs with hs | rfl
                    · exact Hlo.out s hs
                    · exact .inr ⟨h2, h3⟩)
                  clear h1 h2 h3
                  go_upto_region 10 with fail
                  go_quiet (fail)
                  go_wp2_with fail
                  exact ⟨⟨k + 1, by simp, by omega, HS.out, below_dN HB.out _, HR.out.drewN _⟩, by simp [intOf]; omega⟩
                · have qc : decide (t.b < r.b) = false := decide_eq_false h3
                  have HS : Hid (∀ s, L[k]? = some s → Lo r s) := Lib.hid (fun s hs => by
                    rw [Ht.out] at hs
                    obtain rfl : t = s := by simpa using hs
                    have := Hns.out
                    unfold Lo Same at *
                    omega)
                  clear h1 h2 h3
                  go_upto_region 10 with fail
                  go_quiet (fail)
                  go_wp2_with fail
                  go_meet
                  case rel => exact ⟨k, rfl, hk, Hlo.out, HS.out, below_dN HB.out _, HR.out.drewN _⟩
              · have qb : (t.d == r.d) = false := beq_eq_false_iff_ne.2 h2
                have HS : Hid (∀ s, L[k]? = some s → Lo r s) := Lib.hid (fun s hs => by
                  rw [Ht.out] at hs
                  obtain rfl : t = s := by simpa using hs
                  unfold Lo
                  omega)
                clear h1 h2
                go_upto_region 10 with fail
                go_quiet (fail)
                go_wp2_with fail
                go_meet
                case rel => exact ⟨k, rfl, hk, Hlo.out, HS.out, below_dN HB.out _, HR.out.drewN _⟩
          · have q1 : decide ((k : Int) < (L.length : Int)) = false := decide_eq_false (by omega)
            have HS : Hid (∀ s, L[k]? = some s → Lo r s) := Lib.hid (fun s hs => absurd (List.getElem?_eq_some_iff.1 hs).1 hlt)
            go_upto_region 10 with fail
            go_quiet (fail)
            go_wp2_with fail
            go_meet
            case rel => exact ⟨k, rfl, hk, Hlo.out, HS.out, below_dN HB.out _, HR.out.drewN _⟩
      case rest =>
        obtain ⟨k, rfl, hk, hlo, hhi, hB, hR⟩ := hcut
        have HPS := Lib.hid (put_split L k r hk hlo hhi)
        have HB := Lib.hid hB
        have H5 := Lib.hid (HH.out.below hB)
        have hl1 : (L.take k).length = k := by rw [List.length_take]; omega
        have HL1 := Lib.hid (show (L.take k ++ [r]).length = k + 1 by rw [List.length_append, hl1]; rfl)
        have HL2 := Lib.hid (show ((L.take k ++ [r]) ++ L.drop k).length = L.length + 1 by rw [List.length_append, HL1.out, List.length_drop]; omega)
        have HL0 := Lib.hid (show k = ([] ++ L.take k).length by rw [List.nil_append, hl1])
        have HLa := Lib.hid (show ([] : List Rt).length + (L.take k).length ≤ 200 by rw [hl1]; simp; omega)
        have HLb := Lib.hid (show (L.take k).length + [r].length ≤ 200 by rw [hl1]; simp; omega)
        have HLc := Lib.hid (show (L.take k ++ [r]).length + (L.drop k).length ≤ 200 by rw [HL1.out, List.length_drop]; omega)
        have HLk := Lib.hid hl1.symm
        have HPN := Lib.hid (show (putL L r).length = L.length + 1 by rw [HPS.out, List.length_append, List.length_cons, List.length_drop, hl1]; omega)
        have HP64 := Lib.hid (show (putL L r).length ≤ 64 by rw [HPN.out]; omega)
        have HPR : Hid (∀ t ∈ putL L r, t.Right) := Lib.hid (fun t ht => by
          rcases (mem_put HH.out.srt r t).1 ht with rfl | ⟨h5, _⟩
          · exact HG.out
          · exact HH.out.right t h5)
        have HPL := Lib.hid (show (L.take k ++ [r]) ++ L.drop k = putL L r by rw [HPS.out]; simp)
        have M0a := Lib.hid ((Rk.first (Below.refl wc.heap.size wc) r).below (below_drew _))
        have M0b := Lib.hid ((Rk.firstX (Below.refl wc.heap.size wc) r).below (below_drew _))
        have M0c := Lib.hid ((Rk.first (Below.refl wc.heap.size wc) r).alloc.below (below_drew _))
        rw [World.size_alloc] at M0c
        unfold Rt.robj at M0b M0c
        clear c0 c1 c2 c3 hp H2 RI R2 hd hlo hhi hB B2 hl1
        obtain ⟨c0, c1, c2, c3⟩ := hR
        obtain ⟨A', c', hv, _, _, hRI⟩ := H5.out.open
        obtain ⟨rfl, rfl⟩ : A = A' ∧ c = c' := by
          injection hv with h1 h2 h3
          exact ⟨h1, h3⟩
        have H5r := Lib.hid hRI
        clear hRI hv
        rcases HFm.out with ⟨rfl, rfl⟩ | ⟨g2, o2, rfl⟩
        · obtain rfl : L = [] := List.length_eq_zero_iff.1 (by omega)
          obtain rfl : k = 0 := by simpa using hk
          have KS : Hid (∀ W', Below wc.heap.size wc W' → W'.cell? ⟨p, 0, none⟩ = some (.slice none 0 0) ∧ W'.cell? ⟨g, 0, none⟩ = some (.int .u32 r.d) ∧ W'.cell? ⟨g, 1, none⟩ = some (.int .i64 r.b) ∧ W'.cell? ⟨g, 2, none⟩ = some (.int .u32 r.v) ∧ W'.cell? ⟨g, 3, none⟩ = some (.int .i64 r.o) ∧ W'.frozen? ⟨p, 0, none⟩ = false) := Lib.hid (fun W' hW => by
            have t := H5.out.below hW
            have u := (show RtAt wc g r from ⟨c0, c1, c2, c3⟩).below hW
            exact ⟨t.cell, u.c0, u.c1, u.c2, u.c3, by simp [World.frozen?, t.blk]⟩)
          have SR : Hid (∀ W', Below wc.heap.size wc W' → RdR W' (.slice none 0 0) (([] : List Rt).take 0)) := Lib.hid (fun W' hW => ⟨none, 0, rfl, fun j t hj => by simp at hj⟩)
          have SD : Hid (∀ W', Below wc.heap.size wc W' → RdR W' (.slice none 0 0) (([] : List Rt).drop 0)) := Lib.hid (fun W' hW => ⟨none, 0, rfl, fun j t hj => by simp at hj⟩)
          go_upto_region 12 with fail
          refine HT.start (S := fun W' => W'.cell? ⟨p, 0, none⟩ = some (.slice none 0 0) ∧ W'.cell? ⟨g, 0, none⟩ = some (.int .u32 r.d) ∧ W'.cell? ⟨g, 1, none⟩ = some (.int .i64 r.b) ∧ W'.cell? ⟨g, 2, none⟩ = some (.int .u32 r.v) ∧ W'.cell? ⟨g, 3, none⟩ = some (.int .i64 r.o) ∧ W'.frozen? ⟨p, 0, none⟩ = false) 21 1 (by kernel_rfl) rfl ?_
          refine HT.take 0 ⟨some 94, _, _, _, _, _⟩ (.pointer (some ⟨p, 0, none⟩)) rfl (by kernel_rfl) (by kernel_rfl) (by kernel_rfl) (by kernel_rfl) (fun _ _ _ h => h) (Or.inl ⟨by rfl, ?_⟩) (KS.out _ (below_drew wc)) ?_
          · intro W hSw
            (try dsimp only at hSw)
            go_simp
          try simp only [Act.put, List.setIfInBounds_toArray, List.set_cons_zero, List.set_cons_succ]
          refine HT.take 2 ⟨some 96, _, _, _, _, _⟩ (.pointer (some ⟨p, 0, none⟩)) rfl (by kernel_rfl) (by kernel_rfl) (by kernel_rfl) (by kernel_rfl) (fun _ _ _ h => h) (Or.inl ⟨by rfl, ?_⟩) (KS.out _ (below_drew wc)) ?_
          · intro W hSw
            (try dsimp only at hSw)
            go_simp
          try simp only [Act.put, List.setIfInBounds_toArray, List.set_cons_zero, List.set_cons_succ]
          refine HT.take 3 ⟨some 97, _, _, _, _, _⟩ (.pointer (some ⟨p, 0, none⟩)) rfl (by kernel_rfl) (by kernel_rfl) (by kernel_rfl) (by kernel_rfl) (fun _ _ _ h => h) (Or.inl ⟨by rfl, ?_⟩) (KS.out _ (below_drew wc)) ?_
          · intro W hSw
            (try dsimp only at hSw)
            go_simp
          try simp only [Act.put, List.setIfInBounds_toArray, List.set_cons_zero, List.set_cons_succ]
          refine HT.take 4 ⟨some 98, _, _, _, _, _⟩ (.pointer (some ⟨p, 0, none⟩)) rfl (by kernel_rfl) (by kernel_rfl) (by kernel_rfl) (by kernel_rfl) (fun _ _ _ h => h) (Or.inl ⟨by rfl, ?_⟩) (KS.out _ (below_drew wc)) ?_
          · intro W hSw
            (try dsimp only at hSw)
            go_simp
          try simp only [Act.put, List.setIfInBounds_toArray, List.set_cons_zero, List.set_cons_succ]
          refine HT.take 5 ⟨some 99, _, _, _, _, _⟩ (.slice none 0 0) rfl (by kernel_rfl) (by kernel_rfl) (by kernel_rfl) (by kernel_rfl) (fun _ _ _ h => h) (Or.inl ⟨by rfl, ?_⟩) (KS.out _ (below_drew wc)) ?_
          · intro W hSw
            (try dsimp only at hSw)
            go_simp
          try simp only [Act.put, List.setIfInBounds_toArray, List.set_cons_zero, List.set_cons_succ]
          refine HT.take 6 ⟨some 100, _, _, _, _, _⟩ (.int .i64 ((0 : Nat) : Int)) rfl (by kernel_rfl) (by kernel_rfl) (by kernel_rfl) (by kernel_rfl) (fun _ _ _ h => h) (Or.inl ⟨by rfl, ?_⟩) (KS.out _ (below_drew wc)) ?_
          · intro W hSw
            (try dsimp only at hSw)
            go_simp
          try simp only [Act.put, List.setIfInBounds_toArray, List.set_cons_zero, List.set_cons_succ]
          refine HT.take 7 ⟨some 101, _, _, _, _, _⟩ (.slice none 0 0) rfl (by kernel_rfl) (by kernel_rfl) (by kernel_rfl) (by kernel_rfl) (fun _ _ _ h => h) (Or.inl ⟨by rfl, ?_⟩) (KS.out _ (below_drew wc)) ?_
          · intro W hSw
            (try dsimp only at hSw)
            go_simp
          try simp only [Act.put, List.setIfInBounds_toArray, List.set_cons_zero, List.set_cons_succ]
          refine HT.take 9 ⟨some 103, _, _, _, _, _⟩ (.agg #[.int .u32 r.d, .int .i64 r.b, .int .u32 r.v, .int .i64 r.o]) rfl (by kernel_rfl) (by kernel_rfl) (by kernel_rfl) (by kernel_rfl) (fun _ _ _ h => h) (Or.inl ⟨by rfl, ?_⟩) (KS.out _ (below_drew wc)) ?_
          · intro W hSw
            (try dsimp only at hSw)
            go_simp
          try simp only [Act.put, List.setIfInBounds_toArray, List.set_cons_zero, List.set_cons_succ]
          refine HT.take 12 ⟨some 106, _, _, _, _, _⟩ (.pointer (some ⟨p, 0, none⟩)) rfl (by kernel_rfl) (by kernel_rfl) (by kernel_rfl) (by kernel_rfl) (fun _ _ _ h => h) (Or.inl ⟨by rfl, ?_⟩) (KS.out _ (below_drew wc)) ?_
          · intro W hSw
            (try dsimp only at hSw)
            go_simp
          try simp only [Act.put, List.setIfInBounds_toArray, List.set_cons_zero, List.set_cons_succ]
          refine HT.take 13 ⟨some 107, _, _, _, _, _⟩ (.pointer (some ⟨p, 0, none⟩)) rfl (by kernel_rfl) (by kernel_rfl) (by kernel_rfl) (by kernel_rfl) (fun _ _ _ h => h) (Or.inl ⟨by rfl, ?_⟩) (KS.out _ (below_drew wc)) ?_
          · intro W hSw
            (try dsimp only at hSw)
            go_simp
          try simp only [Act.put, List.setIfInBounds_toArray, List.set_cons_zero, List.set_cons_succ]
          refine HT.take 14 ⟨some 108, _, _, _, _, _⟩ (.pointer (some ⟨p, 0, none⟩)) rfl (by kernel_rfl) (by kernel_rfl) (by kernel_rfl) (by kernel_rfl) (fun _ _ _ h => h) (Or.inl ⟨by rfl, ?_⟩) (KS.out _ (below_drew wc)) ?_
          · intro W hSw
            (try dsimp only at hSw)
            go_simp
          try simp only [Act.put, List.setIfInBounds_toArray, List.set_cons_zero, List.set_cons_succ]
          refine HT.take 15 ⟨some 109, _, _, _, _, _⟩ (.slice none 0 0) rfl (by kernel_rfl) (by kernel_rfl) (by kernel_rfl) (by kernel_rfl) (fun _ _ _ h => h) (Or.inl ⟨by rfl, ?_⟩) (KS.out _ (below_drew wc)) ?_
          · intro W hSw
            (try dsimp only at hSw)
            go_simp
          try simp only [Act.put, List.setIfInBounds_toArray, List.set_cons_zero, List.set_cons_succ]
          refine HT.take 16 ⟨some 110, _, _, _, _, _⟩ (.int .i64 ((0 : Nat) : Int)) rfl (by kernel_rfl) (by kernel_rfl) (by kernel_rfl) (by kernel_rfl) (fun _ _ _ h => h) (Or.inl ⟨by rfl, ?_⟩) (KS.out _ (below_drew wc)) ?_
          · intro W hSw
            (try dsimp only at hSw)
            go_simp
          try simp only [Act.put, List.setIfInBounds_toArray, List.set_cons_zero, List.set_cons_succ]
          refine HT.take 17 ⟨some 111, _, _, _, _, _⟩ (.slice none 0 0) rfl (by kernel_rfl) (by kernel_rfl) (by kernel_rfl) (by kernel_rfl) (fun _ _ _ h => h) (Or.inl ⟨by rfl, ?_⟩) (KS.out _ (below_drew wc)) ?_
          · intro W hSw
            (try dsimp only at hSw)
            go_simp
          try simp only [Act.put, List.setIfInBounds_toArray, List.set_cons_zero, List.set_cons_succ]
          refine HT.all [1, 10] (by kernel_rfl) (by simp) ?_
          refine HT.cons 1 ⟨some 95, _, _, _, _, _⟩ rfl (by decide) (fun K hK => ?_) ?_
          · go_simp
            refine hK _ _ (KS.out _ (below_dN (below_al (Below.refl _ wc) _) 1)) ?_
            clear hK K
            try simp only [Act.put, List.setIfInBounds_toArray, List.set_cons_zero, List.set_cons_succ]
            refine HT.all [8, 10] (by kernel_rfl) (by simp) ?_
            refine HT.cons 8 ⟨some 102, _, _, _, _, _⟩ rfl (by decide) (fun K hK => ?_) ?_
            · refine step_append_rk rfl (.tmp 95) (.tmp 101) rfl rfl _ _ [] (([] : List Rt).take 0) _ 0 0 rfl rfl rfl ⟨M0a.out, SR.out _ M0a.out.old⟩ HLa.out HL0.out 102 rfl ?_
              intro g1 d1 w6 h1
              have M1 := Lib.hid (show Rk wc w6 g1 d1 (([] : List Rt).take 0) _ r from h1)
              clear h1
              refine hK _ _ (KS.out _ M1.out.old) ?_
              clear hK K
              try simp only [Act.put, List.setIfInBounds_toArray, List.set_cons_zero, List.set_cons_succ]
              refine HT.all [10] (by kernel_rfl) (by simp) ?_
              refine HT.cons 10 ⟨some 104, _, _, _, _, _⟩ rfl (by decide) (fun K hK => ?_) HT.nil
              go_simp
              refine hK _ _ (KS.out _ (below_al M1.out.old _)) ?_
              clear hK K
              try simp only [Act.put, List.setIfInBounds_toArray, List.set_cons_zero, List.set_cons_succ]
              refine HT.all [11] (by kernel_rfl) (by simp) ?_
              refine HT.cons 11 ⟨some 105, _, _, _, _, _⟩ rfl (by decide) (fun K hK => ?_) HT.nil
              refine step_append_rk rfl (.tmp 102) (.tmp 104) rfl rfl _ _ (([] : List Rt).take 0) [r] _ 0 (0 + 1) rfl HLk.out rfl ⟨M1.out.alloc, RdR.one (M1.out.alloc.x _ rfl).1⟩ HLb.out HL1.out.symm 105 rfl ?_
              intro g2' d2 w7 h1
              have M2 := Lib.hid h1
              clear h1
              refine hK _ _ (KS.out _ M2.out.old) ?_
              clear hK K
              try simp only [Act.put, List.setIfInBounds_toArray, List.set_cons_zero, List.set_cons_succ]
              refine HT.all [18] (by kernel_rfl) (by simp) ?_
              refine HT.cons 18 ⟨some 112, _, _, _, _, _⟩ rfl (by decide) (fun K hK => ?_) HT.nil
              refine step_append_rk rfl (.tmp 105) (.tmp 111) rfl rfl _ _ (([] : List Rt).take 0 ++ [r]) (([] : List Rt).drop 0) _ (0 + 1) (([] : List Rt).length + 1) rfl HL1.out.symm rfl ⟨M2.out, SD.out _ M2.out.old⟩ HLc.out HL2.out.symm 112 rfl ?_
              intro g3 d3 w8 h1
              have M3 := Lib.hid h1
              clear h1
              refine hK _ _ (KS.out _ M3.out.old) ?_
              clear hK K
              try simp only [Act.put, List.setIfInBounds_toArray, List.set_cons_zero, List.set_cons_succ]
              refine HT.take 19 ⟨some 113, _, _, _, _, _⟩ (.pointer (some ⟨p, 0, none⟩)) rfl (by kernel_rfl) (by kernel_rfl) (by kernel_rfl) (by kernel_rfl) (fun _ _ _ h => h) (Or.inl ⟨by rfl, ?_⟩) (KS.out _ M3.out.old) ?_
              · intro W hSw
                (try dsimp only at hSw)
                go_simp
              try simp only [Act.put, List.setIfInBounds_toArray, List.set_cons_zero, List.set_cons_succ]
              refine HT.take 20 ⟨some 114, _, _, _, _, _⟩ (.pointer (some ⟨p, 0, none⟩)) rfl (by kernel_rfl) (by kernel_rfl) (by kernel_rfl) (by kernel_rfl) (fun _ _ _ h => h) (Or.inl ⟨by rfl, ?_⟩) (KS.out _ M3.out.old) ?_
              · intro W hSw
                (try dsimp only at hSw)
                go_simp
              try simp only [Act.put, List.setIfInBounds_toArray, List.set_cons_zero, List.set_cons_succ]
              refine HT.tail (by kernel_rfl) ?_
              obtain ⟨hp8, _, _, _, _, hf8⟩ := KS.out _ M3.out.old
              refine wpAny_ready (rs := [21]) (by kernel_rfl) (by simp) ?_
              refine AllReady.cons (o := ⟨none, _, _, _, _, _⟩) rfl (fun K hK => ?_) AllReady.nil
              go_simp
              refine hK _ _ ?_
              clear hK K
              try simp only [Act.put]
              refine wpAny_done (by kernel_rfl) ?_ _
              clear hp8 hf8
              go_wp2_with fail
              go_ret
              have hc := Hc.out
              have hl' := HL.out
              rw [hf.out] at hc hl'
              subst hc hl'
              have M4 := M3.out
              rw [HPL.out] at M4
              have hst := H5.out.stored (Nat.le_trans HBw.out HB.out.size) M4 (srt_put H5.out.srt r) HPR.out HP64.out
              rw [HPN.out] at hst
              exact ⟨_, rfl, hst.1, (Mv.of_below HB.out).trans hst.2⟩
            refine HT.cons 10 ⟨some 104, _, _, _, _, _⟩ rfl (by decide) (fun K hK => ?_) HT.nil
            go_simp
            refine hK _ _ (KS.out _ (below_dN (below_al (below_al (Below.refl _ wc) _) _) 1)) ?_
            clear hK K
            try simp only [Act.put, List.setIfInBounds_toArray, List.set_cons_zero, List.set_cons_succ]
            refine HT.all [8] (by kernel_rfl) (by simp) ?_
            refine HT.cons 8 ⟨some 102, _, _, _, _, _⟩ rfl (by decide) (fun K hK => ?_) HT.nil
            refine step_append_rk rfl (.tmp 95) (.tmp 101) rfl rfl _ _ [] (([] : List Rt).take 0) _ 0 0 rfl rfl rfl ⟨M0c.out, SR.out _ M0c.out.old⟩ HLa.out HL0.out 102 rfl ?_
            intro g1 d1 w6 h1
            have M1 := Lib.hid (show Rk wc w6 g1 d1 (([] : List Rt).take 0) _ r from h1)
            clear h1
            refine hK _ _ (KS.out _ M1.out.old) ?_
            clear hK K
            try simp only [Act.put, List.setIfInBounds_toArray, List.set_cons_zero, List.set_cons_succ]
            refine HT.all [11] (by kernel_rfl) (by simp) ?_
            refine HT.cons 11 ⟨some 105, _, _, _, _, _⟩ rfl (by decide) (fun K hK => ?_) HT.nil
            refine step_append_rk rfl (.tmp 102) (.tmp 104) rfl rfl _ _ (([] : List Rt).take 0) [r] _ 0 (0 + 1) rfl HLk.out rfl ⟨M1.out, RdR.one (M1.out.x _ rfl).1⟩ HLb.out HL1.out.symm 105 rfl ?_
            intro g2' d2 w7 h1
            have M2 := Lib.hid h1
            clear h1
            refine hK _ _ (KS.out _ M2.out.old) ?_
            clear hK K
            try simp only [Act.put, List.setIfInBounds_toArray, List.set_cons_zero, List.set_cons_succ]
            refine HT.all [18] (by kernel_rfl) (by simp) ?_
            refine HT.cons 18 ⟨some 112, _, _, _, _, _⟩ rfl (by decide) (fun K hK => ?_) HT.nil
            refine step_append_rk rfl (.tmp 105) (.tmp 111) rfl rfl _ _ (([] : List Rt).take 0 ++ [r]) (([] : List Rt).drop 0) _ (0 + 1) (([] : List Rt).length + 1) rfl HL1.out.symm rfl ⟨M2.out, SD.out _ M2.out.old⟩ HLc.out HL2.out.symm 112 rfl ?_
            intro g3 d3 w8 h1
            have M3 := Lib.hid h1
            clear h1
            refine hK _ _ (KS.out _ M3.out.old) ?_
            clear hK K
            try simp only [Act.put, List.setIfInBounds_toArray, List.set_cons_zero, List.set_cons_succ]
            refine HT.take 19 ⟨some 113, _, _, _, _, _⟩ (.pointer (some ⟨p, 0, none⟩)) rfl (by kernel_rfl) (by kernel_rfl) (by kernel_rfl) (by kernel_rfl) (fun _ _ _ h => h) (Or.inl ⟨by rfl, ?_⟩) (KS.out _ M3.out.old) ?_
            · intro W hSw
              (try dsimp only at hSw)
              go_simp
            try simp only [Act.put, List.setIfInBounds_toArray, List.set_cons_zero, List.set_cons_succ]
            refine HT.take 20 ⟨some 114, _, _, _, _, _⟩ (.pointer (some ⟨p, 0, none⟩)) rfl (by kernel_rfl) (by kernel_rfl) (by kernel_rfl) (by kernel_rfl) (fun _ _ _ h => h) (Or.inl ⟨by rfl, ?_⟩) (KS.out _ M3.out.old) ?_
            · intro W hSw
              (try dsimp only at hSw)
              go_simp
            try simp only [Act.put, List.setIfInBounds_toArray, List.set_cons_zero, List.set_cons_succ]
            refine HT.tail (by kernel_rfl) ?_
            obtain ⟨hp8, _, _, _, _, hf8⟩ := KS.out _ M3.out.old
            refine wpAny_ready (rs := [21]) (by kernel_rfl) (by simp) ?_
            refine AllReady.cons (o := ⟨none, _, _, _, _, _⟩) rfl (fun K hK => ?_) AllReady.nil
            go_simp
            refine hK _ _ ?_
            clear hK K
            try simp only [Act.put]
            refine wpAny_done (by kernel_rfl) ?_ _
            clear hp8 hf8
            go_wp2_with fail
            go_ret
            have hc := Hc.out
            have hl' := HL.out
            rw [hf.out] at hc hl'
            subst hc hl'
            have M4 := M3.out
            rw [HPL.out] at M4
            have hst := H5.out.stored (Nat.le_trans HBw.out HB.out.size) M4 (srt_put H5.out.srt r) HPR.out HP64.out
            rw [HPN.out] at hst
            exact ⟨_, rfl, hst.1, (Mv.of_below HB.out).trans hst.2⟩
          refine HT.cons 10 ⟨some 104, _, _, _, _, _⟩ rfl (by decide) (fun K hK => ?_) HT.nil
          go_simp
          refine hK _ _ (KS.out _ (below_dN (below_al (Below.refl _ wc) _) 1)) ?_
          clear hK K
          try simp only [Act.put, List.setIfInBounds_toArray, List.set_cons_zero, List.set_cons_succ]
          refine HT.all [1] (by kernel_rfl) (by simp) ?_
          refine HT.cons 1 ⟨some 95, _, _, _, _, _⟩ rfl (by decide) (fun K hK => ?_) HT.nil
          go_simp
          refine hK _ _ (KS.out _ (below_dN (below_al (below_al (Below.refl _ wc) _) _) 1)) ?_
          clear hK K
          try simp only [Act.put, List.setIfInBounds_toArray, List.set_cons_zero, List.set_cons_succ]
          refine HT.all [8] (by kernel_rfl) (by simp) ?_
          refine HT.cons 8 ⟨some 102, _, _, _, _, _⟩ rfl (by decide) (fun K hK => ?_) HT.nil
          refine step_append_rk rfl (.tmp 95) (.tmp 101) rfl rfl _ _ [] (([] : List Rt).take 0) _ 0 0 rfl rfl rfl ⟨M0b.out, SR.out _ M0b.out.old⟩ HLa.out HL0.out 102 rfl ?_
          intro g1 d1 w6 h1
          have M1 := Lib.hid (show Rk wc w6 g1 d1 (([] : List Rt).take 0) _ r from h1)
          clear h1
          refine hK _ _ (KS.out _ M1.out.old) ?_
          clear hK K
          try simp only [Act.put, List.setIfInBounds_toArray, List.set_cons_zero, List.set_cons_succ]
          refine HT.all [11] (by kernel_rfl) (by simp) ?_
          refine HT.cons 11 ⟨some 105, _, _, _, _, _⟩ rfl (by decide) (fun K hK => ?_) HT.nil
          refine step_append_rk rfl (.tmp 102) (.tmp 104) rfl rfl _ _ (([] : List Rt).take 0) [r] _ 0 (0 + 1) rfl HLk.out rfl ⟨M1.out, RdR.one (M1.out.x _ rfl).1⟩ HLb.out HL1.out.symm 105 rfl ?_
          intro g2' d2 w7 h1
          have M2 := Lib.hid h1
          clear h1
          refine hK _ _ (KS.out _ M2.out.old) ?_
          clear hK K
          try simp only [Act.put, List.setIfInBounds_toArray, List.set_cons_zero, List.set_cons_succ]
          refine HT.all [18] (by kernel_rfl) (by simp) ?_
          refine HT.cons 18 ⟨some 112, _, _, _, _, _⟩ rfl (by decide) (fun K hK => ?_) HT.nil
          refine step_append_rk rfl (.tmp 105) (.tmp 111) rfl rfl _ _ (([] : List Rt).take 0 ++ [r]) (([] : List Rt).drop 0) _ (0 + 1) (([] : List Rt).length + 1) rfl HL1.out.symm rfl ⟨M2.out, SD.out _ M2.out.old⟩ HLc.out HL2.out.symm 112 rfl ?_
          intro g3 d3 w8 h1
          have M3 := Lib.hid h1
          clear h1
          refine hK _ _ (KS.out _ M3.out.old) ?_
          clear hK K
          try simp only [Act.put, List.setIfInBounds_toArray, List.set_cons_zero, List.set_cons_succ]
          refine HT.take 19 ⟨some 113, _, _, _, _, _⟩ (.pointer (some ⟨p, 0, none⟩)) rfl (by kernel_rfl) (by kernel_rfl) (by kernel_rfl) (by kernel_rfl) (fun _ _ _ h => h) (Or.inl ⟨by rfl, ?_⟩) (KS.out _ M3.out.old) ?_
          · intro W hSw
            (try dsimp only at hSw)
            go_simp
          try simp only [Act.put, List.setIfInBounds_toArray, List.set_cons_zero, List.set_cons_succ]
          refine HT.take 20 ⟨some 114, _, _, _, _, _⟩ (.pointer (some ⟨p, 0, none⟩)) rfl (by kernel_rfl) (by kernel_rfl) (by kernel_rfl) (by kernel_rfl) (fun _ _ _ h => h) (Or.inl ⟨by rfl, ?_⟩) (KS.out _ M3.out.old) ?_
          · intro W hSw
            (try dsimp only at hSw)
            go_simp
          try simp only [Act.put, List.setIfInBounds_toArray, List.set_cons_zero, List.set_cons_succ]
          refine HT.tail (by kernel_rfl) ?_
          obtain ⟨hp8, _, _, _, _, hf8⟩ := KS.out _ M3.out.old
          refine wpAny_ready (rs := [21]) (by kernel_rfl) (by simp) ?_
          refine AllReady.cons (o := ⟨none, _, _, _, _, _⟩) rfl (fun K hK => ?_) AllReady.nil
          go_simp
          refine hK _ _ ?_
          clear hK K
          try simp only [Act.put]
          refine wpAny_done (by kernel_rfl) ?_ _
          clear hp8 hf8
          go_wp2_with fail
          go_ret
          have hc := Hc.out
          have hl' := HL.out
          rw [hf.out] at hc hl'
          subst hc hl'
          have M4 := M3.out
          rw [HPL.out] at M4
          have hst := H5.out.stored (Nat.le_trans HBw.out HB.out.size) M4 (srt_put H5.out.srt r) HPR.out HP64.out
          rw [HPN.out] at hst
          exact ⟨_, rfl, hst.1, (Mv.of_below HB.out).trans hst.2⟩
        · have KS : Hid (∀ W', Below wc.heap.size wc W' → W'.cell? ⟨p, 0, none⟩ = some (.slice (some ⟨g2, o2, none⟩) L.length c) ∧ W'.cell? ⟨g, 0, none⟩ = some (.int .u32 r.d) ∧ W'.cell? ⟨g, 1, none⟩ = some (.int .i64 r.b) ∧ W'.cell? ⟨g, 2, none⟩ = some (.int .u32 r.v) ∧ W'.cell? ⟨g, 3, none⟩ = some (.int .i64 r.o) ∧ W'.frozen? ⟨p, 0, none⟩ = false) := Lib.hid (fun W' hW => by
            have t := H5.out.below hW
            have u := (show RtAt wc g r from ⟨c0, c1, c2, c3⟩).below hW
            exact ⟨t.cell, u.c0, u.c1, u.c2, u.c3, by simp [World.frozen?, t.blk]⟩)
          have hkc : k ≤ c := by omega
          obtain ⟨A2, hA2⟩ : ∃ A2, (if c = k then some (⟨g2, o2, none⟩ : Addr) else some ⟨g2, o2 + k * 4, none⟩) = A2 := ⟨_, rfl⟩
          have SR := Lib.hid (fun W' (hW : Below wc.heap.size wc W') => RdR.front (H5r.out.below hW) hk c)
          have SD : Hid (∀ W', Below wc.heap.size wc W' → RdR W' (.slice A2 (L.length - k) (c - k)) (L.drop k)) := Lib.hid (fun W' hW => RdR.behind (H5r.out.below hW) (c - k) (fun hlt => by rw [← hA2, if_neg (by omega)]))
          go_upto_region 12 with fail
          refine HT.start (S := fun W' => W'.cell? ⟨p, 0, none⟩ = some (.slice (some ⟨g2, o2, none⟩) L.length c) ∧ W'.cell? ⟨g, 0, none⟩ = some (.int .u32 r.d) ∧ W'.cell? ⟨g, 1, none⟩ = some (.int .i64 r.b) ∧ W'.cell? ⟨g, 2, none⟩ = some (.int .u32 r.v) ∧ W'.cell? ⟨g, 3, none⟩ = some (.int .i64 r.o) ∧ W'.frozen? ⟨p, 0, none⟩ = false) 21 1 (by kernel_rfl) rfl ?_
          refine HT.take 0 ⟨some 94, _, _, _, _, _⟩ (.pointer (some ⟨p, 0, none⟩)) rfl (by kernel_rfl) (by kernel_rfl) (by kernel_rfl) (by kernel_rfl) (fun _ _ _ h => h) (Or.inl ⟨by rfl, ?_⟩) (KS.out _ (below_drew wc)) ?_
          · intro W hSw
            (try dsimp only at hSw)
            go_simp
          try simp only [Act.put, List.setIfInBounds_toArray, List.set_cons_zero, List.set_cons_succ]
          refine HT.take 2 ⟨some 96, _, _, _, _, _⟩ (.pointer (some ⟨p, 0, none⟩)) rfl (by kernel_rfl) (by kernel_rfl) (by kernel_rfl) (by kernel_rfl) (fun _ _ _ h => h) (Or.inl ⟨by rfl, ?_⟩) (KS.out _ (below_drew wc)) ?_
          · intro W hSw
            (try dsimp only at hSw)
            go_simp
          try simp only [Act.put, List.setIfInBounds_toArray, List.set_cons_zero, List.set_cons_succ]
          refine HT.take 3 ⟨some 97, _, _, _, _, _⟩ (.pointer (some ⟨p, 0, none⟩)) rfl (by kernel_rfl) (by kernel_rfl) (by kernel_rfl) (by kernel_rfl) (fun _ _ _ h => h) (Or.inl ⟨by rfl, ?_⟩) (KS.out _ (below_drew wc)) ?_
          · intro W hSw
            (try dsimp only at hSw)
            go_simp
          try simp only [Act.put, List.setIfInBounds_toArray, List.set_cons_zero, List.set_cons_succ]
          refine HT.take 4 ⟨some 98, _, _, _, _, _⟩ (.pointer (some ⟨p, 0, none⟩)) rfl (by kernel_rfl) (by kernel_rfl) (by kernel_rfl) (by kernel_rfl) (fun _ _ _ h => h) (Or.inl ⟨by rfl, ?_⟩) (KS.out _ (below_drew wc)) ?_
          · intro W hSw
            (try dsimp only at hSw)
            go_simp
          try simp only [Act.put, List.setIfInBounds_toArray, List.set_cons_zero, List.set_cons_succ]
          refine HT.take 5 ⟨some 99, _, _, _, _, _⟩ (.slice (some ⟨g2, o2, none⟩) L.length c) rfl (by kernel_rfl) (by kernel_rfl) (by kernel_rfl) (by kernel_rfl) (fun _ _ _ h => h) (Or.inl ⟨by rfl, ?_⟩) (KS.out _ (below_drew wc)) ?_
          · intro W hSw
            (try dsimp only at hSw)
            go_simp
          try simp only [Act.put, List.setIfInBounds_toArray, List.set_cons_zero, List.set_cons_succ]
          refine HT.take 6 ⟨some 100, _, _, _, _, _⟩ (.int .i64 (k : Int)) rfl (by kernel_rfl) (by kernel_rfl) (by kernel_rfl) (by kernel_rfl) (fun _ _ _ h => h) (Or.inl ⟨by rfl, ?_⟩) (KS.out _ (below_drew wc)) ?_
          · intro W hSw
            (try dsimp only at hSw)
            go_simp
          try simp only [Act.put, List.setIfInBounds_toArray, List.set_cons_zero, List.set_cons_succ]
          refine HT.take 7 ⟨some 101, _, _, _, _, _⟩ (.slice (some ⟨g2, o2, none⟩) k c) rfl (by kernel_rfl) (by kernel_rfl) (by kernel_rfl) (by kernel_rfl) (fun _ _ _ h => h) (Or.inl ⟨by rfl, ?_⟩) (KS.out _ (below_drew wc)) ?_
          · intro W hSw
            (try dsimp only at hSw)
            go_simp
          try simp only [Act.put, List.setIfInBounds_toArray, List.set_cons_zero, List.set_cons_succ]
          refine HT.take 9 ⟨some 103, _, _, _, _, _⟩ (.agg #[.int .u32 r.d, .int .i64 r.b, .int .u32 r.v, .int .i64 r.o]) rfl (by kernel_rfl) (by kernel_rfl) (by kernel_rfl) (by kernel_rfl) (fun _ _ _ h => h) (Or.inl ⟨by rfl, ?_⟩) (KS.out _ (below_drew wc)) ?_
          · intro W hSw
            (try dsimp only at hSw)
            go_simp
          try simp only [Act.put, List.setIfInBounds_toArray, List.set_cons_zero, List.set_cons_succ]
          refine HT.take 12 ⟨some 106, _, _, _, _, _⟩ (.pointer (some ⟨p, 0, none⟩)) rfl (by kernel_rfl) (by kernel_rfl) (by kernel_rfl) (by kernel_rfl) (fun _ _ _ h => h) (Or.inl ⟨by rfl, ?_⟩) (KS.out _ (below_drew wc)) ?_
          · intro W hSw
            (try dsimp only at hSw)
            go_simp
          try simp only [Act.put, List.setIfInBounds_toArray, List.set_cons_zero, List.set_cons_succ]
          refine HT.take 13 ⟨some 107, _, _, _, _, _⟩ (.pointer (some ⟨p, 0, none⟩)) rfl (by kernel_rfl) (by kernel_rfl) (by kernel_rfl) (by kernel_rfl) (fun _ _ _ h => h) (Or.inl ⟨by rfl, ?_⟩) (KS.out _ (below_drew wc)) ?_
          · intro W hSw
            (try dsimp only at hSw)
            go_simp
          try simp only [Act.put, List.setIfInBounds_toArray, List.set_cons_zero, List.set_cons_succ]
          refine HT.take 14 ⟨some 108, _, _, _, _, _⟩ (.pointer (some ⟨p, 0, none⟩)) rfl (by kernel_rfl) (by kernel_rfl) (by kernel_rfl) (by kernel_rfl) (fun _ _ _ h => h) (Or.inl ⟨by rfl, ?_⟩) (KS.out _ (below_drew wc)) ?_
          · intro W hSw
            (try dsimp only at hSw)
            go_simp
          try simp only [Act.put, List.setIfInBounds_toArray, List.set_cons_zero, List.set_cons_succ]
          refine HT.take 15 ⟨some 109, _, _, _, _, _⟩ (.slice (some ⟨g2, o2, none⟩) L.length c) rfl (by kernel_rfl) (by kernel_rfl) (by kernel_rfl) (by kernel_rfl) (fun _ _ _ h => h) (Or.inl ⟨by rfl, ?_⟩) (KS.out _ (below_drew wc)) ?_
          · intro W hSw
            (try dsimp only at hSw)
            go_simp
          try simp only [Act.put, List.setIfInBounds_toArray, List.set_cons_zero, List.set_cons_succ]
          refine HT.take 16 ⟨some 110, _, _, _, _, _⟩ (.int .i64 (k : Int)) rfl (by kernel_rfl) (by kernel_rfl) (by kernel_rfl) (by kernel_rfl) (fun _ _ _ h => h) (Or.inl ⟨by rfl, ?_⟩) (KS.out _ (below_drew wc)) ?_
          · intro W hSw
            (try dsimp only at hSw)
            go_simp
          try simp only [Act.put, List.setIfInBounds_toArray, List.set_cons_zero, List.set_cons_succ]
          refine HT.take 17 ⟨some 111, _, _, _, _, _⟩ (.slice A2 (L.length - k) (c - k)) rfl (by kernel_rfl) (by kernel_rfl) (by kernel_rfl) (by kernel_rfl) (fun _ _ _ h => h) (Or.inl ⟨by rfl, ?_⟩) (KS.out _ (below_drew wc)) ?_
          · intro W hSw
            (try dsimp only at hSw)
            go_simp
          try simp only [Act.put, List.setIfInBounds_toArray, List.set_cons_zero, List.set_cons_succ]
          refine HT.all [1, 10] (by kernel_rfl) (by simp) ?_
          refine HT.cons 1 ⟨some 95, _, _, _, _, _⟩ rfl (by decide) (fun K hK => ?_) ?_
          · go_simp
            refine hK _ _ (KS.out _ (below_dN (below_al (Below.refl _ wc) _) 1)) ?_
            clear hK K
            try simp only [Act.put, List.setIfInBounds_toArray, List.set_cons_zero, List.set_cons_succ]
            refine HT.all [8, 10] (by kernel_rfl) (by simp) ?_
            refine HT.cons 8 ⟨some 102, _, _, _, _, _⟩ rfl (by decide) (fun K hK => ?_) ?_
            · refine step_append_rk rfl (.tmp 95) (.tmp 101) rfl rfl _ _ [] (L.take k) _ 0 k rfl rfl rfl ⟨M0a.out, SR.out _ M0a.out.old⟩ HLa.out HL0.out 102 rfl ?_
              intro g1 d1 w6 h1
              have M1 := Lib.hid (show Rk wc w6 g1 d1 (L.take k) _ r from h1)
              clear h1
              refine hK _ _ (KS.out _ M1.out.old) ?_
              clear hK K
              try simp only [Act.put, List.setIfInBounds_toArray, List.set_cons_zero, List.set_cons_succ]
              refine HT.all [10] (by kernel_rfl) (by simp) ?_
              refine HT.cons 10 ⟨some 104, _, _, _, _, _⟩ rfl (by decide) (fun K hK => ?_) HT.nil
              go_simp
              refine hK _ _ (KS.out _ (below_al M1.out.old _)) ?_
              clear hK K
              try simp only [Act.put, List.setIfInBounds_toArray, List.set_cons_zero, List.set_cons_succ]
              refine HT.all [11] (by kernel_rfl) (by simp) ?_
              refine HT.cons 11 ⟨some 105, _, _, _, _, _⟩ rfl (by decide) (fun K hK => ?_) HT.nil
              refine step_append_rk rfl (.tmp 102) (.tmp 104) rfl rfl _ _ (L.take k) [r] _ k (k + 1) rfl HLk.out rfl ⟨M1.out.alloc, RdR.one (M1.out.alloc.x _ rfl).1⟩ HLb.out HL1.out.symm 105 rfl ?_
              intro g2' d2 w7 h1
              have M2 := Lib.hid h1
              clear h1
              refine hK _ _ (KS.out _ M2.out.old) ?_
              clear hK K
              try simp only [Act.put, List.setIfInBounds_toArray, List.set_cons_zero, List.set_cons_succ]
              refine HT.all [18] (by kernel_rfl) (by simp) ?_
              refine HT.cons 18 ⟨some 112, _, _, _, _, _⟩ rfl (by decide) (fun K hK => ?_) HT.nil
              refine step_append_rk rfl (.tmp 105) (.tmp 111) rfl rfl _ _ (L.take k ++ [r]) (L.drop k) _ (k + 1) (L.length + 1) rfl HL1.out.symm rfl ⟨M2.out, SD.out _ M2.out.old⟩ HLc.out HL2.out.symm 112 rfl ?_
              intro g3 d3 w8 h1
              have M3 := Lib.hid h1
              clear h1
              refine hK _ _ (KS.out _ M3.out.old) ?_
              clear hK K
              try simp only [Act.put, List.setIfInBounds_toArray, List.set_cons_zero, List.set_cons_succ]
              refine HT.take 19 ⟨some 113, _, _, _, _, _⟩ (.pointer (some ⟨p, 0, none⟩)) rfl (by kernel_rfl) (by kernel_rfl) (by kernel_rfl) (by kernel_rfl) (fun _ _ _ h => h) (Or.inl ⟨by rfl, ?_⟩) (KS.out _ M3.out.old) ?_
              · intro W hSw
                (try dsimp only at hSw)
                go_simp
              try simp only [Act.put, List.setIfInBounds_toArray, List.set_cons_zero, List.set_cons_succ]
              refine HT.take 20 ⟨some 114, _, _, _, _, _⟩ (.pointer (some ⟨p, 0, none⟩)) rfl (by kernel_rfl) (by kernel_rfl) (by kernel_rfl) (by kernel_rfl) (fun _ _ _ h => h) (Or.inl ⟨by rfl, ?_⟩) (KS.out _ M3.out.old) ?_
              · intro W hSw
                (try dsimp only at hSw)
                go_simp
              try simp only [Act.put, List.setIfInBounds_toArray, List.set_cons_zero, List.set_cons_succ]
              refine HT.tail (by kernel_rfl) ?_
              obtain ⟨hp8, _, _, _, _, hf8⟩ := KS.out _ M3.out.old
              refine wpAny_ready (rs := [21]) (by kernel_rfl) (by simp) ?_
              refine AllReady.cons (o := ⟨none, _, _, _, _, _⟩) rfl (fun K hK => ?_) AllReady.nil
              go_simp
              refine hK _ _ ?_
              clear hK K
              try simp only [Act.put]
              refine wpAny_done (by kernel_rfl) ?_ _
              clear hp8 hf8
              go_wp2_with fail
              go_ret
              have hc := Hc.out
              have hl' := HL.out
              rw [hf.out] at hc hl'
              subst hc hl'
              have M4 := M3.out
              rw [HPL.out] at M4
              have hst := H5.out.stored (Nat.le_trans HBw.out HB.out.size) M4 (srt_put H5.out.srt r) HPR.out HP64.out
              rw [HPN.out] at hst
              exact ⟨_, rfl, hst.1, (Mv.of_below HB.out).trans hst.2⟩
            refine HT.cons 10 ⟨some 104, _, _, _, _, _⟩ rfl (by decide) (fun K hK => ?_) HT.nil
            go_simp
            refine hK _ _ (KS.out _ (below_dN (below_al (below_al (Below.refl _ wc) _) _) 1)) ?_
            clear hK K
            try simp only [Act.put, List.setIfInBounds_toArray, List.set_cons_zero, List.set_cons_succ]
            refine HT.all [8] (by kernel_rfl) (by simp) ?_
            refine HT.cons 8 ⟨some 102, _, _, _, _, _⟩ rfl (by decide) (fun K hK => ?_) HT.nil
            refine step_append_rk rfl (.tmp 95) (.tmp 101) rfl rfl _ _ [] (L.take k) _ 0 k rfl rfl rfl ⟨M0c.out, SR.out _ M0c.out.old⟩ HLa.out HL0.out 102 rfl ?_
            intro g1 d1 w6 h1
            have M1 := Lib.hid (show Rk wc w6 g1 d1 (L.take k) _ r from h1)
            clear h1
            refine hK _ _ (KS.out _ M1.out.old) ?_
            clear hK K
            try simp only [Act.put, List.setIfInBounds_toArray, List.set_cons_zero, List.set_cons_succ]
            refine HT.all [11] (by kernel_rfl) (by simp) ?_
            refine HT.cons 11 ⟨some 105, _, _, _, _, _⟩ rfl (by decide) (fun K hK => ?_) HT.nil
            refine step_append_rk rfl (.tmp 102) (.tmp 104) rfl rfl _ _ (L.take k) [r] _ k (k + 1) rfl HLk.out rfl ⟨M1.out, RdR.one (M1.out.x _ rfl).1⟩ HLb.out HL1.out.symm 105 rfl ?_
            intro g2' d2 w7 h1
            have M2 := Lib.hid h1
            clear h1
            refine hK _ _ (KS.out _ M2.out.old) ?_
            clear hK K
            try simp only [Act.put, List.setIfInBounds_toArray, List.set_cons_zero, List.set_cons_succ]
            refine HT.all [18] (by kernel_rfl) (by simp) ?_
            refine HT.cons 18 ⟨some 112, _, _, _, _, _⟩ rfl (by decide) (fun K hK => ?_) HT.nil
            refine step_append_rk rfl (.tmp 105) (.tmp 111) rfl rfl _ _ (L.take k ++ [r]) (L.drop k) _ (k + 1) (L.length + 1) rfl HL1.out.symm rfl ⟨M2.out, SD.out _ M2.out.old⟩ HLc.out HL2.out.symm 112 rfl ?_
            intro g3 d3 w8 h1
            have M3 := Lib.hid h1
            clear h1
            refine hK _ _ (KS.out _ M3.out.old) ?_
            clear hK K
            try simp only [Act.put, List.setIfInBounds_toArray, List.set_cons_zero, List.set_cons_succ]
            refine HT.take 19 ⟨some 113, _, _, _, _, _⟩ (.pointer (some ⟨p, 0, none⟩)) rfl (by kernel_rfl) (by kernel_rfl) (by kernel_rfl) (by kernel_rfl) (fun _ _ _ h => h) (Or.inl ⟨by rfl, ?_⟩) (KS.out _ M3.out.old) ?_
            · intro W hSw
              (try dsimp only at hSw)
              go_simp
            try simp only [Act.put, List.setIfInBounds_toArray, List.set_cons_zero, List.set_cons_succ]
            refine HT.take 20 ⟨some 114, _, _, _, _, _⟩ (.pointer (some ⟨p, 0, none⟩)) rfl (by kernel_rfl) (by kernel_rfl) (by kernel_rfl) (by kernel_rfl) (fun _ _ _ h => h) (Or.inl ⟨by rfl, ?_⟩) (KS.out _ M3.out.old) ?_
            · intro W hSw
              (try dsimp only at hSw)
              go_simp
            try simp only [Act.put, List.setIfInBounds_toArray, List.set_cons_zero, List.set_cons_succ]
            refine HT.tail (by kernel_rfl) ?_
            obtain ⟨hp8, _, _, _, _, hf8⟩ := KS.out _ M3.out.old
            refine wpAny_ready (rs := [21]) (by kernel_rfl) (by simp) ?_
            refine AllReady.cons (o := ⟨none, _, _, _, _, _⟩) rfl (fun K hK => ?_) AllReady.nil
            go_simp
            refine hK _ _ ?_
            clear hK K
            try simp only [Act.put]
            refine wpAny_done (by kernel_rfl) ?_ _
            clear hp8 hf8
            go_wp2_with fail
            go_ret
            have hc := Hc.out
            have hl' := HL.out
            rw [hf.out] at hc hl'
            subst hc hl'
            have M4 := M3.out
            rw [HPL.out] at M4
            have hst := H5.out.stored (Nat.le_trans HBw.out HB.out.size) M4 (srt_put H5.out.srt r) HPR.out HP64.out
            rw [HPN.out] at hst
            exact ⟨_, rfl, hst.1, (Mv.of_below HB.out).trans hst.2⟩
          refine HT.cons 10 ⟨some 104, _, _, _, _, _⟩ rfl (by decide) (fun K hK => ?_) HT.nil
          go_simp
          refine hK _ _ (KS.out _ (below_dN (below_al (Below.refl _ wc) _) 1)) ?_
          clear hK K
          try simp only [Act.put, List.setIfInBounds_toArray, List.set_cons_zero, List.set_cons_succ]
          refine HT.all [1] (by kernel_rfl) (by simp) ?_
          refine HT.cons 1 ⟨some 95, _, _, _, _, _⟩ rfl (by decide) (fun K hK => ?_) HT.nil
          go_simp
          refine hK _ _ (KS.out _ (below_dN (below_al (below_al (Below.refl _ wc) _) _) 1)) ?_
          clear hK K
          try simp only [Act.put, List.setIfInBounds_toArray, List.set_cons_zero, List.set_cons_succ]
          refine HT.all [8] (by kernel_rfl) (by simp) ?_
          refine HT.cons 8 ⟨some 102, _, _, _, _, _⟩ rfl (by decide) (fun K hK => ?_) HT.nil
          refine step_append_rk rfl (.tmp 95) (.tmp 101) rfl rfl _ _ [] (L.take k) _ 0 k rfl rfl rfl ⟨M0b.out, SR.out _ M0b.out.old⟩ HLa.out HL0.out 102 rfl ?_
          intro g1 d1 w6 h1
          have M1 := Lib.hid (show Rk wc w6 g1 d1 (L.take k) _ r from h1)
          clear h1
          refine hK _ _ (KS.out _ M1.out.old) ?_
          clear hK K
          try simp only [Act.put, List.setIfInBounds_toArray, List.set_cons_zero, List.set_cons_succ]
          refine HT.all [11] (by kernel_rfl) (by simp) ?_
          refine HT.cons 11 ⟨some 105, _, _, _, _, _⟩ rfl (by decide) (fun K hK => ?_) HT.nil
          refine step_append_rk rfl (.tmp 102) (.tmp 104) rfl rfl _ _ (L.take k) [r] _ k (k + 1) rfl HLk.out rfl ⟨M1.out, RdR.one (M1.out.x _ rfl).1⟩ HLb.out HL1.out.symm 105 rfl ?_
          intro g2' d2 w7 h1
          have M2 := Lib.hid h1
          clear h1
          refine hK _ _ (KS.out _ M2.out.old) ?_
          clear hK K
          try simp only [Act.put, List.setIfInBounds_toArray, List.set_cons_zero, List.set_cons_succ]
          refine HT.all [18] (by kernel_rfl) (by simp) ?_
          refine HT.cons 18 ⟨some 112, _, _, _, _, _⟩ rfl (by decide) (fun K hK => ?_) HT.nil
          refine step_append_rk rfl (.tmp 105) (.tmp 111) rfl rfl _ _ (L.take k ++ [r]) (L.drop k) _ (k + 1) (L.length + 1) rfl HL1.out.symm rfl ⟨M2.out, SD.out _ M2.out.old⟩ HLc.out HL2.out.symm 112 rfl ?_
          intro g3 d3 w8 h1
          have M3 := Lib.hid h1
          clear h1
          refine hK _ _ (KS.out _ M3.out.old) ?_
          clear hK K
          try simp only [Act.put, List.setIfInBounds_toArray, List.set_cons_zero, List.set_cons_succ]
          refine HT.take 19 ⟨some 113, _, _, _, _, _⟩ (.pointer (some ⟨p, 0, none⟩)) rfl (by kernel_rfl) (by kernel_rfl) (by kernel_rfl) (by kernel_rfl) (fun _ _ _ h => h) (Or.inl ⟨by rfl, ?_⟩) (KS.out _ M3.out.old) ?_
          · intro W hSw
            (try dsimp only at hSw)
            go_simp
          try simp only [Act.put, List.setIfInBounds_toArray, List.set_cons_zero, List.set_cons_succ]
          refine HT.take 20 ⟨some 114, _, _, _, _, _⟩ (.pointer (some ⟨p, 0, none⟩)) rfl (by kernel_rfl) (by kernel_rfl) (by kernel_rfl) (by kernel_rfl) (fun _ _ _ h => h) (Or.inl ⟨by rfl, ?_⟩) (KS.out _ M3.out.old) ?_
          · intro W hSw
            (try dsimp only at hSw)
            go_simp
          try simp only [Act.put, List.setIfInBounds_toArray, List.set_cons_zero, List.set_cons_succ]
          refine HT.tail (by kernel_rfl) ?_
          obtain ⟨hp8, _, _, _, _, hf8⟩ := KS.out _ M3.out.old
          refine wpAny_ready (rs := [21]) (by kernel_rfl) (by simp) ?_
          refine AllReady.cons (o := ⟨none, _, _, _, _, _⟩) rfl (fun K hK => ?_) AllReady.nil
          go_simp
          refine hK _ _ ?_
          clear hK K
          try simp only [Act.put]
          refine wpAny_done (by kernel_rfl) ?_ _
          clear hp8 hf8
          go_wp2_with fail
          go_ret
          have hc := Hc.out
          have hl' := HL.out
          rw [hf.out] at hc hl'
          subst hc hl'
          have M4 := M3.out
          rw [HPL.out] at M4
          have hst := H5.out.stored (Nat.le_trans HBw.out HB.out.size) M4 (srt_put H5.out.srt r) HPR.out HP64.out
          rw [HPN.out] at hst
          exact ⟨_, rfl, hst.1, (Mv.of_below HB.out).trans hst.2⟩
  · have hf : Hid (fullB L r = false) := Lib.hid (by
      unfold fullB
      rw [look_mem HH.out.srt (List.mem_of_getElem? hk) hsm]
      rfl)
    have hlt := (List.getElem?_eq_some_iff.1 hk).1
    have B3 := Lib.hid (below_dN B2.out 1)
    have H3 := Lib.hid (HH.out.below B3.out)
    obtain ⟨g2, o2, c', e, ht, hset⟩ := H3.out.set hk HG.out hsm
    cases e
    go_upto_region 5 with fail
    refine wp_region_still_tail 7 (by kernel_rfl) (by kernel_rfl) ?_
    generalize hD : ({ w3 with drawn := w3.drawn + 1 } : World) = D
    have HD : D = w3.drewN 1 := hD.symm
    rw [← HD] at ht hset B3 H3
    have c0 : D.cell? ⟨g, 0, none⟩ = some (.int .u32 r.d) := by rw [HD]; exact c0
    have c1 : D.cell? ⟨g, 1, none⟩ = some (.int .i64 r.b) := by rw [HD]; exact c1
    have c2 : D.cell? ⟨g, 2, none⟩ = some (.int .u32 r.v) := by rw [HD]; exact c2
    have c3 : D.cell? ⟨g, 3, none⟩ = some (.int .i64 r.o) := by rw [HD]; exact c3
    have hp := H3.out.cell
    have HT := Lib.hid ht
    have HS := Lib.hid hset
    clear ht hset HD hD
    simp only [List.take_succ_cons, List.take_zero, List.drop_succ_cons, List.drop_zero]
    repeat still_step
    refine wpStill_nil ?_
    go_wp2_with (refine wpList_store_mid rfl 36 (.tmp 39) (.tmp 38) rfl g2 (o2 + k * 4) #[.int .u32 r.d, .int .i64 r.b, .int .u32 r.v, .int .i64 r.o] rfl rfl HT.out rrSize (rtRow_one _ _ _ _) ?_)
    go_wp2_with fail
    go_ret
    have hc := Hc.out
    have hl' := HL.out
    rw [hf.out] at hc hl'
    subst hc hl'
    exact ⟨_, rfl, HS.out, (Mv.of_below B3.out).trans (Mv.setCells rfl _ _)⟩
end Go.Proofs.Ytimpellpfnmicaa
