/-
  What is proved: the document's put by contract.
  Conditions: the address is not there; there is room.
-/
import Derived.Test.YtfeipeninmclkaaRcCut
namespace Go.Proofs.Ytfeipeninmclkaa
open Go.RowKit

theorem putx_split : ∀ (P : List Xe) (k : Nat) (x : Xe), k ≤ P.length → (∀ s ∈ P.take k, s.e.ip < x.e.ip) → (∀ s, P[k]? = some s → x.e.ip < s.e.ip) → (P.take k ++ (x :: P.drop k)).map Xe.e = putL (P.map Xe.e) x.e
  | [], 0, r, _, _, _ => rfl
  | y :: l, 0, r, _, _, h => by
    have h1 := h y rfl
    show _ = putL (y.e :: l.map Xe.e) r.e
    unfold putL
    rw [if_neg (by omega), if_pos h1]
    rfl
  | [], k + 1, r, h, _, _ => by simp at h
  | y :: l, k + 1, r, hk, ht, hd => by
    have h1 := ht y (by simp)
    show _ = putL (y.e :: l.map Xe.e) r.e
    unfold putL
    rw [if_pos h1, ← putx_split l k r (by simpa using hk) (fun s hs => ht s (by simp [hs])) (fun s hs => hd s (by simpa using hs))]
    rfl
def PutAt (P : List Xe) (x : Xe) (p : Nat) (F : Nat → Prop) (w : World) (e : Ending) (w' : World) : Prop := ∃ v' F' P', e = .returned (.tuple #[]) ∧ P'.map Xe.e = putL (P.map Xe.e) x.e ∧ Rc w' p F' v' P' ∧ Did w w' F F'
theorem take_succ_mem {P : List Xe} {k : Nat} {t s : Xe} (ht : P[k]? = some t) : s ∈ P.take (k + 1) ↔ s ∈ P.take k ∨ s = t := by
  rw [List.take_add_one, ht, List.mem_append]
  simp

set_option maxRecDepth 100000 in
set_option maxHeartbeats 8000000 in
theorem rput_any (P : List Xe) (x : Xe) (hx : x.e.Ok) (hno : ∀ y ∈ P, ¬ y.e.ip = x.e.ip) (hfew : P.length < 32) (p : Nat) (F : Nat → Prop) (v : Value) (w : World) (h : Rc w p F v P) (hS : SRow w F x.A x.c x.e.pk) :
    Calls Try.prog 30 #[.pointer (some ⟨p, 0, none⟩), x.val] w (PutAt P x p F w) := by
  obtain ⟨A, c, rfl, hc1, hc2, _, hFm⟩ := h.open
  have HFm := Lib.hid hFm
  have HH := Lib.hid h
  have Hno := Lib.hid hno
  have Hx := Lib.hid hx
  have HS := Lib.hid hS
  have B1 := Lib.hid ((Below.refl _ w).alloc (Nat.le_refl _) x.obj)
  have R1 := Lib.hid (XAt.new w x)
  unfold Xe.obj Xe.arr at B1 R1
  unfold Xe.val Xe.arr
  clear hFm h hno hx hS
  go_enter Try.func30, Try.ntmps30
  go_upto_region 1 with fail
  generalize w.alloc (Obj.cells #[.int .u32 x.e.ip, .bool x.e.kn, .int .u8 x.e.m.a, .int .u8 x.e.m.b, .int .u8 x.e.m.c, .int .u8 x.e.m.d, .int .u8 x.e.m.e, .int .u8 x.e.m.f, .int .u64 x.e.t, .int .i64 x.e.tr, .slice x.A x.e.pk.length x.c] 74) = w1 at B1 R1 ⊢
  obtain ⟨B, hB⟩ : ∃ B, w.heap.size = B := ⟨_, rfl⟩
  have HBw := Lib.hid hB
  rw [hB] at B1 ⊢
  obtain ⟨g, hg⟩ : ∃ g, w.heap.size = g := ⟨_, rfl⟩
  rw [hg] at R1
  obtain rfl : g = B := hg.symm.trans hB
  clear hB hg
  go_upto_block 0 with fail
  go_cut [4] (fun s4 wx => ∃ k : Nat, s4 = .int .i64 (k : Int) ∧ k ≤ P.length ∧ (∀ s ∈ P.take k, s.e.ip < x.e.ip) ∧ (∀ s, P[k]? = some s → x.e.ip < s.e.ip) ∧ Below g w wx ∧ XAt wx g 0 x)
  case first =>
    go_wp2_with fail
    go_loopw [4] (fun s4 wr => ∃ k : Nat, s4 = .int .i64 (k : Int) ∧ k ≤ P.length ∧ (∀ s ∈ P.take k, s.e.ip < x.e.ip) ∧ Below g w wr ∧ XAt wr g 0 x) (fun s4 _ => P.length - (intOf s4).toNat)
    case atStart => exact ⟨0, rfl, Nat.zero_le _, by simp, B1.out, R1.out⟩
    case round =>
      obtain ⟨k, rfl, hk, hlo, hB, hR⟩ := hrel
      clear B1 R1
      have HB := Lib.hid hB
      have HR := Lib.hid hR
      have Hlo := Lib.hid hlo
      have H4 := Lib.hid (HH.out.below (HBw.out ▸ hB))
      have hp := H4.out.cell
      have b0 := hR.c0
      clear hB hlo hR
      by_cases hlt : k < P.length
      · have q1 : decide ((k : Int) < (P.length : Int)) = true := decide_eq_true (by omega)
        obtain ⟨t, ht⟩ : ∃ t, P[k]? = some t := ⟨P[k], List.getElem?_eq_getElem hlt⟩
        obtain ⟨A', c', hv, _, _, hRI, _⟩ := H4.out.open
        obtain ⟨rfl, _, rfl⟩ := slice_inj hv
        obtain ⟨g2, o2, rfl, hX⟩ := hRI k t ht
        have d0 := hX.c0
        have Ht := Lib.hid ht
        have Hne := Lib.hid (Hno.out t (List.mem_of_getElem? ht))
        clear hRI hv ht hX
        by_cases h1 : t.e.ip < x.e.ip
        · have qa : decide (t.e.ip < x.e.ip) = true := decide_eq_true h1
          have HSx : Hid (∀ s ∈ P.take (k + 1), s.e.ip < x.e.ip) := Lib.hid (fun s hs => by
            rcases (take_succ_mem Ht.out).1 hs with hs | rfl
            · exact Hlo.out s hs
            · exact h1)
          clear h1
          go_upto_region 2 with fail
          go_quiet (fail)
          go_wp2_with fail
          exact ⟨⟨k + 1, by simp, by omega, HSx.out, below_dN HB.out _, HR.out.drewN _⟩, by simp [intOf]; omega⟩
        · have qa : decide (t.e.ip < x.e.ip) = false := decide_eq_false h1
          have HSx : Hid (∀ s, P[k]? = some s → x.e.ip < s.e.ip) := Lib.hid (fun s hs => by
            rw [Ht.out] at hs
            obtain rfl : t = s := by simpa using hs
            have := Hne.out
            omega)
          clear h1
          go_upto_region 2 with fail
          go_quiet (fail)
          go_wp2_with fail
          go_meet
          case rel => exact ⟨k, rfl, hk, Hlo.out, HSx.out, below_dN HB.out _, HR.out.drewN _⟩
      · have q1 : decide ((k : Int) < (P.length : Int)) = false := decide_eq_false (by omega)
        have HSx : Hid (∀ s, P[k]? = some s → x.e.ip < s.e.ip) := Lib.hid (fun s hs => absurd (List.getElem?_eq_some_iff.1 hs).1 hlt)
        go_upto_region 2 with fail
        go_quiet (fail)
        go_wp2_with fail
        go_meet
        case rel => exact ⟨k, rfl, hk, Hlo.out, HSx.out, below_dN HB.out _, HR.out.drewN _⟩
  case rest =>
    obtain ⟨k, rfl, hk, hlo, hhi, hB, hR⟩ := hcut
    rw [← HBw.out] at hB
    have HB := Lib.hid hB
    have HX := Lib.hid hR
    have H5 := Lib.hid (HH.out.below hB)
    have hl1 : (P.take k).length = k := by rw [List.length_take]; omega
    have HPe : Hid ((P.take k ++ [x]) ++ P.drop k = P.take k ++ (x :: P.drop k)) := Lib.hid (by simp)
    have HPE : Hid (((P.take k ++ [x]) ++ P.drop k).map Xe.e = putL (P.map Xe.e) x.e) := Lib.hid (by rw [HPe.out]; exact putx_split P k x hk hlo hhi)
    have HPm : Hid (∀ y ∈ (P.take k ++ [x]) ++ P.drop k, y ∈ P ∨ y = x) := Lib.hid (fun y hy => by
      simp only [List.mem_append, List.mem_singleton] at hy
      rcases hy with (hy | hy) | hy
      · exact .inl (List.mem_of_mem_take hy)
      · exact .inr hy
      · exact .inl (List.mem_of_mem_drop hy))
    have HPR : Hid (∀ y ∈ (P.take k ++ [x]) ++ P.drop k, SRow w F y.A y.c y.e.pk) := Lib.hid (fun y hy => (HPm.out y hy).elim (HH.out.strs y) (fun e => e ▸ HS.out))
    have HPO : Hid (∀ y ∈ (P.take k ++ [x]) ++ P.drop k, y.e.Ok) := Lib.hid (fun y hy => (HPm.out y hy).elim (HH.out.ok y) (fun e => e ▸ Hx.out))
    have HPS : Hid (Srt (((P.take k ++ [x]) ++ P.drop k).map Xe.e)) := Lib.hid (by rw [HPE.out]; exact srt_put HH.out.srt _)
    have HL1 := Lib.hid (show (P.take k ++ [x]).length = k + 1 by rw [List.length_append, hl1]; rfl)
    have HL2 := Lib.hid (show ((P.take k ++ [x]) ++ P.drop k).length = P.length + 1 by rw [List.length_append, HL1.out, List.length_drop]; omega)
    have HP32 := Lib.hid (show ((P.take k ++ [x]) ++ P.drop k).length ≤ 32 by rw [HL2.out]; omega)
    have HL0 := Lib.hid (show k = ([] ++ P.take k).length by rw [List.nil_append, hl1])
    have HLa := Lib.hid (show ([] : List Xe).length + (P.take k).length ≤ 200 by rw [hl1]; simp; omega)
    have HLb := Lib.hid (show (P.take k).length + [x].length ≤ 200 by rw [hl1]; simp; omega)
    have HLc := Lib.hid (show (P.take k ++ [x]).length + (P.drop k).length ≤ 200 by rw [HL1.out, List.length_drop]; omega)
    have HLk := Lib.hid hl1.symm
    have M0a := Lib.hid ((Xk.first (Below.refl wc.heap.size wc) x).below (below_drew _))
    have M0b := Lib.hid ((Xk.firstX (Below.refl wc.heap.size wc) x).below (below_drew _))
    have M0c := Lib.hid ((Xk.first (Below.refl wc.heap.size wc) x).alloc.below (below_drew _))
    rw [World.size_alloc] at M0c
    unfold Xe.obj Xe.arr at M0b M0c
    clear hlo hhi hB hl1 B1 R1 hR
    obtain ⟨A', c', hv, _, _, hRI, _⟩ := H5.out.open
    obtain ⟨rfl, _, rfl⟩ := slice_inj hv
    have H5r := Lib.hid hRI
    clear hRI hv
    rcases HFm.out with ⟨rfl, rfl⟩ | ⟨g2, o2, rfl⟩
    · obtain rfl : P = [] := List.length_eq_zero_iff.1 (by omega)
      obtain rfl : k = 0 := by simpa using hk
      have KS : Hid (∀ W', Below wc.heap.size wc W' → (fun W' => W'.cell? ⟨p, 0, none⟩ = some (.slice none 0 0) ∧ W'.frozen? ⟨p, 0, none⟩ = false ∧ XAt W' g 0 x) W') := Lib.hid (fun W' hW => ⟨(H5.out.below hW).cell, (H5.out.below hW).thaw, HX.out.below hW⟩)
      have SR : Hid (∀ W', Below wc.heap.size wc W' → RdX W' (.slice none 0 0) (([] : List Xe).take 0)) := Lib.hid (fun W' hW => ⟨none, 0, rfl, fun j t hj => by simp at hj⟩)
      have SD : Hid (∀ W', Below wc.heap.size wc W' → RdX W' (.slice none 0 0) (([] : List Xe).drop 0)) := Lib.hid (fun W' hW => ⟨none, 0, rfl, fun j t hj => by simp at hj⟩)
      go_upto_region 4 with fail
      refine HT.start (S := fun W' => W'.cell? ⟨p, 0, none⟩ = some (.slice none 0 0) ∧ W'.frozen? ⟨p, 0, none⟩ = false ∧ XAt W' g 0 x) 21 1 (by kernel_rfl) rfl ?_
      refine HT.take 0 ⟨some 27, _, _, _, _, _⟩ (.pointer (some ⟨p, 0, none⟩)) rfl (by kernel_rfl) (by kernel_rfl) (by kernel_rfl) (by kernel_rfl) (fun _ _ _ h => h) (Or.inl ⟨by rfl, ?_⟩) (KS.out _ (below_drew wc)) ?_
      · intro W hSw
        (try dsimp only at hSw)
        go_simp
      try simp only [Act.put, List.setIfInBounds_toArray, List.set_cons_zero, List.set_cons_succ]
      refine HT.take 2 ⟨some 29, _, _, _, _, _⟩ (.pointer (some ⟨p, 0, none⟩)) rfl (by kernel_rfl) (by kernel_rfl) (by kernel_rfl) (by kernel_rfl) (fun _ _ _ h => h) (Or.inl ⟨by rfl, ?_⟩) (KS.out _ (below_drew wc)) ?_
      · intro W hSw
        (try dsimp only at hSw)
        go_simp
      try simp only [Act.put, List.setIfInBounds_toArray, List.set_cons_zero, List.set_cons_succ]
      refine HT.take 3 ⟨some 30, _, _, _, _, _⟩ (.pointer (some ⟨p, 0, none⟩)) rfl (by kernel_rfl) (by kernel_rfl) (by kernel_rfl) (by kernel_rfl) (fun _ _ _ h => h) (Or.inl ⟨by rfl, ?_⟩) (KS.out _ (below_drew wc)) ?_
      · intro W hSw
        (try dsimp only at hSw)
        go_simp
      try simp only [Act.put, List.setIfInBounds_toArray, List.set_cons_zero, List.set_cons_succ]
      refine HT.take 4 ⟨some 31, _, _, _, _, _⟩ (.pointer (some ⟨p, 0, none⟩)) rfl (by kernel_rfl) (by kernel_rfl) (by kernel_rfl) (by kernel_rfl) (fun _ _ _ h => h) (Or.inl ⟨by rfl, ?_⟩) (KS.out _ (below_drew wc)) ?_
      · intro W hSw
        (try dsimp only at hSw)
        go_simp
      try simp only [Act.put, List.setIfInBounds_toArray, List.set_cons_zero, List.set_cons_succ]
      refine HT.take 5 ⟨some 32, _, _, _, _, _⟩ (.slice none 0 0) rfl (by kernel_rfl) (by kernel_rfl) (by kernel_rfl) (by kernel_rfl) (fun _ _ _ h => h) (Or.inl ⟨by rfl, ?_⟩) (KS.out _ (below_drew wc)) ?_
      · intro W hSw
        (try dsimp only at hSw)
        go_simp
      try simp only [Act.put, List.setIfInBounds_toArray, List.set_cons_zero, List.set_cons_succ]
      refine HT.take 6 ⟨some 33, _, _, _, _, _⟩ (.int .i64 ((0 : Nat) : Int)) rfl (by kernel_rfl) (by kernel_rfl) (by kernel_rfl) (by kernel_rfl) (fun _ _ _ h => h) (Or.inl ⟨by rfl, ?_⟩) (KS.out _ (below_drew wc)) ?_
      · intro W hSw
        (try dsimp only at hSw)
        go_simp
      try simp only [Act.put, List.setIfInBounds_toArray, List.set_cons_zero, List.set_cons_succ]
      refine HT.take 7 ⟨some 34, _, _, _, _, _⟩ (.slice none 0 0) rfl (by kernel_rfl) (by kernel_rfl) (by kernel_rfl) (by kernel_rfl) (fun _ _ _ h => h) (Or.inl ⟨by rfl, ?_⟩) (KS.out _ (below_drew wc)) ?_
      · intro W hSw
        (try dsimp only at hSw)
        go_simp
      try simp only [Act.put, List.setIfInBounds_toArray, List.set_cons_zero, List.set_cons_succ]
      refine HT.take 9 ⟨some 36, _, _, _, _, _⟩ (.agg x.cells.toArray) rfl (by kernel_rfl) (by kernel_rfl) (by kernel_rfl) (by kernel_rfl) (fun _ _ _ h => h) (yieldsIf_load_mid (by rfl) 74 (.tmp 3) rfl g 0 rfl x.cells _ (fun W hW => hW.2.2.range) Try.underlying74 rfl xSize) (KS.out _ (below_drew wc)) ?_
      unfold Xe.cells
      try simp only [Act.put, List.setIfInBounds_toArray, List.set_cons_zero, List.set_cons_succ]
      refine HT.take 12 ⟨some 39, _, _, _, _, _⟩ (.pointer (some ⟨p, 0, none⟩)) rfl (by kernel_rfl) (by kernel_rfl) (by kernel_rfl) (by kernel_rfl) (fun _ _ _ h => h) (Or.inl ⟨by rfl, ?_⟩) (KS.out _ (below_drew wc)) ?_
      · intro W hSw
        (try dsimp only at hSw)
        go_simp
      try simp only [Act.put, List.setIfInBounds_toArray, List.set_cons_zero, List.set_cons_succ]
      refine HT.take 13 ⟨some 40, _, _, _, _, _⟩ (.pointer (some ⟨p, 0, none⟩)) rfl (by kernel_rfl) (by kernel_rfl) (by kernel_rfl) (by kernel_rfl) (fun _ _ _ h => h) (Or.inl ⟨by rfl, ?_⟩) (KS.out _ (below_drew wc)) ?_
      · intro W hSw
        (try dsimp only at hSw)
        go_simp
      try simp only [Act.put, List.setIfInBounds_toArray, List.set_cons_zero, List.set_cons_succ]
      refine HT.take 14 ⟨some 41, _, _, _, _, _⟩ (.pointer (some ⟨p, 0, none⟩)) rfl (by kernel_rfl) (by kernel_rfl) (by kernel_rfl) (by kernel_rfl) (fun _ _ _ h => h) (Or.inl ⟨by rfl, ?_⟩) (KS.out _ (below_drew wc)) ?_
      · intro W hSw
        (try dsimp only at hSw)
        go_simp
      try simp only [Act.put, List.setIfInBounds_toArray, List.set_cons_zero, List.set_cons_succ]
      refine HT.take 15 ⟨some 42, _, _, _, _, _⟩ (.slice none 0 0) rfl (by kernel_rfl) (by kernel_rfl) (by kernel_rfl) (by kernel_rfl) (fun _ _ _ h => h) (Or.inl ⟨by rfl, ?_⟩) (KS.out _ (below_drew wc)) ?_
      · intro W hSw
        (try dsimp only at hSw)
        go_simp
      try simp only [Act.put, List.setIfInBounds_toArray, List.set_cons_zero, List.set_cons_succ]
      refine HT.take 16 ⟨some 43, _, _, _, _, _⟩ (.int .i64 ((0 : Nat) : Int)) rfl (by kernel_rfl) (by kernel_rfl) (by kernel_rfl) (by kernel_rfl) (fun _ _ _ h => h) (Or.inl ⟨by rfl, ?_⟩) (KS.out _ (below_drew wc)) ?_
      · intro W hSw
        (try dsimp only at hSw)
        go_simp
      try simp only [Act.put, List.setIfInBounds_toArray, List.set_cons_zero, List.set_cons_succ]
      refine HT.take 17 ⟨some 44, _, _, _, _, _⟩ (.slice none 0 0) rfl (by kernel_rfl) (by kernel_rfl) (by kernel_rfl) (by kernel_rfl) (fun _ _ _ h => h) (Or.inl ⟨by rfl, ?_⟩) (KS.out _ (below_drew wc)) ?_
      · intro W hSw
        (try dsimp only at hSw)
        go_simp
      try simp only [Act.put, List.setIfInBounds_toArray, List.set_cons_zero, List.set_cons_succ]
      refine HT.all [1, 10] (by kernel_rfl) (by simp) ?_
      refine HT.cons 1 ⟨some 28, _, _, _, _, _⟩ rfl (by decide) (fun K hK => ?_) ?_
      · go_simp
        refine hK _ _ (KS.out _ (below_dN (below_al (Below.refl _ wc) _) 1)) ?_
        clear hK K
        try simp only [Act.put, List.setIfInBounds_toArray, List.set_cons_zero, List.set_cons_succ]
        refine HT.all [8, 10] (by kernel_rfl) (by simp) ?_
        refine HT.cons 8 ⟨some 35, _, _, _, _, _⟩ rfl (by decide) (fun K hK => ?_) ?_
        · refine step_append_xk rfl (.tmp 28) (.tmp 34) rfl rfl _ _ [] (([] : List Xe).take 0) _ 0 0 rfl rfl rfl ⟨M0a.out, SR.out _ M0a.out.old⟩ HLa.out HL0.out 35 rfl ?_
          intro g1 d1 w6 h1
          have M1 := Lib.hid (show Xk wc w6 g1 d1 (([] : List Xe).take 0) _ x from h1)
          clear h1
          refine hK _ _ (KS.out _ M1.out.old) ?_
          clear hK K
          try simp only [Act.put, List.setIfInBounds_toArray, List.set_cons_zero, List.set_cons_succ]
          refine HT.all [10] (by kernel_rfl) (by simp) ?_
          refine HT.cons 10 ⟨some 37, _, _, _, _, _⟩ rfl (by decide) (fun K hK => ?_) HT.nil
          go_simp
          refine hK _ _ (KS.out _ (below_al M1.out.old _)) ?_
          clear hK K
          try simp only [Act.put, List.setIfInBounds_toArray, List.set_cons_zero, List.set_cons_succ]
          refine HT.all [11] (by kernel_rfl) (by simp) ?_
          refine HT.cons 11 ⟨some 38, _, _, _, _, _⟩ rfl (by decide) (fun K hK => ?_) HT.nil
          refine step_append_xk rfl (.tmp 35) (.tmp 37) rfl rfl _ _ (([] : List Xe).take 0) [x] _ 0 (0 + 1) rfl HLk.out rfl ⟨M1.out.alloc, RdX.one ((M1.out.alloc).x _ rfl).1⟩ HLb.out HL1.out.symm 38 rfl ?_
          intro g2' d2 w7 h1
          have M2 := Lib.hid h1
          clear h1
          refine hK _ _ (KS.out _ M2.out.old) ?_
          clear hK K
          try simp only [Act.put, List.setIfInBounds_toArray, List.set_cons_zero, List.set_cons_succ]
          refine HT.all [18] (by kernel_rfl) (by simp) ?_
          refine HT.cons 18 ⟨some 45, _, _, _, _, _⟩ rfl (by decide) (fun K hK => ?_) HT.nil
          refine step_append_xk rfl (.tmp 38) (.tmp 44) rfl rfl _ _ ((([] : List Xe).take 0) ++ [x]) (([] : List Xe).drop 0) _ (0 + 1) (([] : List Xe).length + 1) rfl HL1.out.symm rfl ⟨M2.out, SD.out _ M2.out.old⟩ HLc.out HL2.out.symm 45 rfl ?_
          intro g3 d3 w8 h1
          have M3 := Lib.hid h1
          clear h1
          refine hK _ _ (KS.out _ M3.out.old) ?_
          clear hK K
          try simp only [Act.put, List.setIfInBounds_toArray, List.set_cons_zero, List.set_cons_succ]
          refine HT.take 19 ⟨some 46, _, _, _, _, _⟩ (.pointer (some ⟨p, 0, none⟩)) rfl (by kernel_rfl) (by kernel_rfl) (by kernel_rfl) (by kernel_rfl) (fun _ _ _ h => h) (Or.inl ⟨by rfl, ?_⟩) (KS.out _ M3.out.old) ?_
          · intro W hSw
            (try dsimp only at hSw)
            go_simp
          try simp only [Act.put, List.setIfInBounds_toArray, List.set_cons_zero, List.set_cons_succ]
          refine HT.take 20 ⟨some 47, _, _, _, _, _⟩ (.pointer (some ⟨p, 0, none⟩)) rfl (by kernel_rfl) (by kernel_rfl) (by kernel_rfl) (by kernel_rfl) (fun _ _ _ h => h) (Or.inl ⟨by rfl, ?_⟩) (KS.out _ M3.out.old) ?_
          · intro W hSw
            (try dsimp only at hSw)
            go_simp
          try simp only [Act.put, List.setIfInBounds_toArray, List.set_cons_zero, List.set_cons_succ]
          refine HT.tail (by kernel_rfl) ?_
          obtain ⟨hp8, hf8, _⟩ := KS.out _ M3.out.old
          refine wpAny_ready (rs := [21]) (by kernel_rfl) (by simp) ?_
          refine AllReady.cons (o := ⟨none, _, _, _, _, _⟩) rfl (fun K hK => ?_) AllReady.nil
          go_simp
          refine hK _ _ ?_
          clear hK K
          try simp only [Act.put]
          refine wpAny_done (by kernel_rfl) ?_ _
          clear hp8 hf8
          go_wp2_with fail
          go_end0
          have M4 := M3.out
          have hst := HH.out.stored (below_to HB.out M4.old HB.out.size) (owns_base M4.row HB.out.size) HPR.out HPS.out HPO.out HP32.out
          rw [HL2.out] at hst
          exact ⟨_, _, _, rfl, HPE.out, hst.1, hst.2⟩
        · refine HT.cons 10 ⟨some 37, _, _, _, _, _⟩ rfl (by decide) (fun K hK => ?_) HT.nil
          go_simp
          refine hK _ _ (KS.out _ (below_dN (below_al (below_al (Below.refl _ wc) _) _) 1)) ?_
          clear hK K
          try simp only [Act.put, List.setIfInBounds_toArray, List.set_cons_zero, List.set_cons_succ]
          refine HT.all [8] (by kernel_rfl) (by simp) ?_
          refine HT.cons 8 ⟨some 35, _, _, _, _, _⟩ rfl (by decide) (fun K hK => ?_) HT.nil
          refine step_append_xk rfl (.tmp 28) (.tmp 34) rfl rfl _ _ [] (([] : List Xe).take 0) _ 0 0 rfl rfl rfl ⟨M0c.out, SR.out _ M0c.out.old⟩ HLa.out HL0.out 35 rfl ?_
          intro g1 d1 w6 h1
          have M1 := Lib.hid (show Xk wc w6 g1 d1 (([] : List Xe).take 0) _ x from h1)
          clear h1
          refine hK _ _ (KS.out _ M1.out.old) ?_
          clear hK K
          try simp only [Act.put, List.setIfInBounds_toArray, List.set_cons_zero, List.set_cons_succ]
          refine HT.all [11] (by kernel_rfl) (by simp) ?_
          refine HT.cons 11 ⟨some 38, _, _, _, _, _⟩ rfl (by decide) (fun K hK => ?_) HT.nil
          refine step_append_xk rfl (.tmp 35) (.tmp 37) rfl rfl _ _ (([] : List Xe).take 0) [x] _ 0 (0 + 1) rfl HLk.out rfl ⟨M1.out, RdX.one ((M1.out).x _ rfl).1⟩ HLb.out HL1.out.symm 38 rfl ?_
          intro g2' d2 w7 h1
          have M2 := Lib.hid h1
          clear h1
          refine hK _ _ (KS.out _ M2.out.old) ?_
          clear hK K
          try simp only [Act.put, List.setIfInBounds_toArray, List.set_cons_zero, List.set_cons_succ]
          refine HT.all [18] (by kernel_rfl) (by simp) ?_
          refine HT.cons 18 ⟨some 45, _, _, _, _, _⟩ rfl (by decide) (fun K hK => ?_) HT.nil
          refine step_append_xk rfl (.tmp 38) (.tmp 44) rfl rfl _ _ ((([] : List Xe).take 0) ++ [x]) (([] : List Xe).drop 0) _ (0 + 1) (([] : List Xe).length + 1) rfl HL1.out.symm rfl ⟨M2.out, SD.out _ M2.out.old⟩ HLc.out HL2.out.symm 45 rfl ?_
          intro g3 d3 w8 h1
          have M3 := Lib.hid h1
          clear h1
          refine hK _ _ (KS.out _ M3.out.old) ?_
          clear hK K
          try simp only [Act.put, List.setIfInBounds_toArray, List.set_cons_zero, List.set_cons_succ]
          refine HT.take 19 ⟨some 46, _, _, _, _, _⟩ (.pointer (some ⟨p, 0, none⟩)) rfl (by kernel_rfl) (by kernel_rfl) (by kernel_rfl) (by kernel_rfl) (fun _ _ _ h => h) (Or.inl ⟨by rfl, ?_⟩) (KS.out _ M3.out.old) ?_
          · intro W hSw
            (try dsimp only at hSw)
            go_simp
          try simp only [Act.put, List.setIfInBounds_toArray, List.set_cons_zero, List.set_cons_succ]
          refine HT.take 20 ⟨some 47, _, _, _, _, _⟩ (.pointer (some ⟨p, 0, none⟩)) rfl (by kernel_rfl) (by kernel_rfl) (by kernel_rfl) (by kernel_rfl) (fun _ _ _ h => h) (Or.inl ⟨by rfl, ?_⟩) (KS.out _ M3.out.old) ?_
          · intro W hSw
            (try dsimp only at hSw)
            go_simp
          try simp only [Act.put, List.setIfInBounds_toArray, List.set_cons_zero, List.set_cons_succ]
          refine HT.tail (by kernel_rfl) ?_
          obtain ⟨hp8, hf8, _⟩ := KS.out _ M3.out.old
          refine wpAny_ready (rs := [21]) (by kernel_rfl) (by simp) ?_
          refine AllReady.cons (o := ⟨none, _, _, _, _, _⟩) rfl (fun K hK => ?_) AllReady.nil
          go_simp
          refine hK _ _ ?_
          clear hK K
          try simp only [Act.put]
          refine wpAny_done (by kernel_rfl) ?_ _
          clear hp8 hf8
          go_wp2_with fail
          go_end0
          have M4 := M3.out
          have hst := HH.out.stored (below_to HB.out M4.old HB.out.size) (owns_base M4.row HB.out.size) HPR.out HPS.out HPO.out HP32.out
          rw [HL2.out] at hst
          exact ⟨_, _, _, rfl, HPE.out, hst.1, hst.2⟩
      · refine HT.cons 10 ⟨some 37, _, _, _, _, _⟩ rfl (by decide) (fun K hK => ?_) HT.nil
        go_simp
        refine hK _ _ (KS.out _ (below_dN (below_al (Below.refl _ wc) _) 1)) ?_
        clear hK K
        try simp only [Act.put, List.setIfInBounds_toArray, List.set_cons_zero, List.set_cons_succ]
        refine HT.all [1] (by kernel_rfl) (by simp) ?_
        refine HT.cons 1 ⟨some 28, _, _, _, _, _⟩ rfl (by decide) (fun K hK => ?_) HT.nil
        go_simp
        refine hK _ _ (KS.out _ (below_dN (below_al (below_al (Below.refl _ wc) _) _) 1)) ?_
        clear hK K
        try simp only [Act.put, List.setIfInBounds_toArray, List.set_cons_zero, List.set_cons_succ]
        refine HT.all [8] (by kernel_rfl) (by simp) ?_
        refine HT.cons 8 ⟨some 35, _, _, _, _, _⟩ rfl (by decide) (fun K hK => ?_) HT.nil
        refine step_append_xk rfl (.tmp 28) (.tmp 34) rfl rfl _ _ [] (([] : List Xe).take 0) _ 0 0 rfl rfl rfl ⟨M0b.out, SR.out _ M0b.out.old⟩ HLa.out HL0.out 35 rfl ?_
        intro g1 d1 w6 h1
        have M1 := Lib.hid (show Xk wc w6 g1 d1 (([] : List Xe).take 0) _ x from h1)
        clear h1
        refine hK _ _ (KS.out _ M1.out.old) ?_
        clear hK K
        try simp only [Act.put, List.setIfInBounds_toArray, List.set_cons_zero, List.set_cons_succ]
        refine HT.all [11] (by kernel_rfl) (by simp) ?_
        refine HT.cons 11 ⟨some 38, _, _, _, _, _⟩ rfl (by decide) (fun K hK => ?_) HT.nil
        refine step_append_xk rfl (.tmp 35) (.tmp 37) rfl rfl _ _ (([] : List Xe).take 0) [x] _ 0 (0 + 1) rfl HLk.out rfl ⟨M1.out, RdX.one ((M1.out).x _ rfl).1⟩ HLb.out HL1.out.symm 38 rfl ?_
        intro g2' d2 w7 h1
        have M2 := Lib.hid h1
        clear h1
        refine hK _ _ (KS.out _ M2.out.old) ?_
        clear hK K
        try simp only [Act.put, List.setIfInBounds_toArray, List.set_cons_zero, List.set_cons_succ]
        refine HT.all [18] (by kernel_rfl) (by simp) ?_
        refine HT.cons 18 ⟨some 45, _, _, _, _, _⟩ rfl (by decide) (fun K hK => ?_) HT.nil
        refine step_append_xk rfl (.tmp 38) (.tmp 44) rfl rfl _ _ ((([] : List Xe).take 0) ++ [x]) (([] : List Xe).drop 0) _ (0 + 1) (([] : List Xe).length + 1) rfl HL1.out.symm rfl ⟨M2.out, SD.out _ M2.out.old⟩ HLc.out HL2.out.symm 45 rfl ?_
        intro g3 d3 w8 h1
        have M3 := Lib.hid h1
        clear h1
        refine hK _ _ (KS.out _ M3.out.old) ?_
        clear hK K
        try simp only [Act.put, List.setIfInBounds_toArray, List.set_cons_zero, List.set_cons_succ]
        refine HT.take 19 ⟨some 46, _, _, _, _, _⟩ (.pointer (some ⟨p, 0, none⟩)) rfl (by kernel_rfl) (by kernel_rfl) (by kernel_rfl) (by kernel_rfl) (fun _ _ _ h => h) (Or.inl ⟨by rfl, ?_⟩) (KS.out _ M3.out.old) ?_
        · intro W hSw
          (try dsimp only at hSw)
          go_simp
        try simp only [Act.put, List.setIfInBounds_toArray, List.set_cons_zero, List.set_cons_succ]
        refine HT.take 20 ⟨some 47, _, _, _, _, _⟩ (.pointer (some ⟨p, 0, none⟩)) rfl (by kernel_rfl) (by kernel_rfl) (by kernel_rfl) (by kernel_rfl) (fun _ _ _ h => h) (Or.inl ⟨by rfl, ?_⟩) (KS.out _ M3.out.old) ?_
        · intro W hSw
          (try dsimp only at hSw)
          go_simp
        try simp only [Act.put, List.setIfInBounds_toArray, List.set_cons_zero, List.set_cons_succ]
        refine HT.tail (by kernel_rfl) ?_
        obtain ⟨hp8, hf8, _⟩ := KS.out _ M3.out.old
        refine wpAny_ready (rs := [21]) (by kernel_rfl) (by simp) ?_
        refine AllReady.cons (o := ⟨none, _, _, _, _, _⟩) rfl (fun K hK => ?_) AllReady.nil
        go_simp
        refine hK _ _ ?_
        clear hK K
        try simp only [Act.put]
        refine wpAny_done (by kernel_rfl) ?_ _
        clear hp8 hf8
        go_wp2_with fail
        go_end0
        have M4 := M3.out
        have hst := HH.out.stored (below_to HB.out M4.old HB.out.size) (owns_base M4.row HB.out.size) HPR.out HPS.out HPO.out HP32.out
        rw [HL2.out] at hst
        exact ⟨_, _, _, rfl, HPE.out, hst.1, hst.2⟩
    · have _h0 := HFm
      have KS : Hid (∀ W', Below wc.heap.size wc W' → (fun W' => W'.cell? ⟨p, 0, none⟩ = some (.slice (some ⟨g2, o2, none⟩) P.length c) ∧ W'.frozen? ⟨p, 0, none⟩ = false ∧ XAt W' g 0 x) W') := Lib.hid (fun W' hW => ⟨(H5.out.below hW).cell, (H5.out.below hW).thaw, HX.out.below hW⟩)
      have hkc : k ≤ c := by omega
      obtain ⟨A2, hA2⟩ : ∃ A2, (if c = k then some (⟨g2, o2, none⟩ : Addr) else some ⟨g2, o2 + k * 11, none⟩) = A2 := ⟨_, rfl⟩
      have SR := Lib.hid (fun W' (hW : Below wc.heap.size wc W') => RdX.front (H5r.out.below hW) hk c)
      have SD : Hid (∀ W', Below wc.heap.size wc W' → RdX W' (.slice A2 (P.length - k) (c - k)) (P.drop k)) := Lib.hid (fun W' hW => RdX.behind (H5r.out.below hW) (c - k) (fun hlt => by rw [← hA2, if_neg (by omega)]))
      go_upto_region 4 with fail
      refine HT.start (S := fun W' => W'.cell? ⟨p, 0, none⟩ = some (.slice (some ⟨g2, o2, none⟩) P.length c) ∧ W'.frozen? ⟨p, 0, none⟩ = false ∧ XAt W' g 0 x) 21 1 (by kernel_rfl) rfl ?_
      refine HT.take 0 ⟨some 27, _, _, _, _, _⟩ (.pointer (some ⟨p, 0, none⟩)) rfl (by kernel_rfl) (by kernel_rfl) (by kernel_rfl) (by kernel_rfl) (fun _ _ _ h => h) (Or.inl ⟨by rfl, ?_⟩) (KS.out _ (below_drew wc)) ?_
      · intro W hSw
        (try dsimp only at hSw)
        go_simp
      try simp only [Act.put, List.setIfInBounds_toArray, List.set_cons_zero, List.set_cons_succ]
      refine HT.take 2 ⟨some 29, _, _, _, _, _⟩ (.pointer (some ⟨p, 0, none⟩)) rfl (by kernel_rfl) (by kernel_rfl) (by kernel_rfl) (by kernel_rfl) (fun _ _ _ h => h) (Or.inl ⟨by rfl, ?_⟩) (KS.out _ (below_drew wc)) ?_
      · intro W hSw
        (try dsimp only at hSw)
        go_simp
      try simp only [Act.put, List.setIfInBounds_toArray, List.set_cons_zero, List.set_cons_succ]
      refine HT.take 3 ⟨some 30, _, _, _, _, _⟩ (.pointer (some ⟨p, 0, none⟩)) rfl (by kernel_rfl) (by kernel_rfl) (by kernel_rfl) (by kernel_rfl) (fun _ _ _ h => h) (Or.inl ⟨by rfl, ?_⟩) (KS.out _ (below_drew wc)) ?_
      · intro W hSw
        (try dsimp only at hSw)
        go_simp
      try simp only [Act.put, List.setIfInBounds_toArray, List.set_cons_zero, List.set_cons_succ]
      refine HT.take 4 ⟨some 31, _, _, _, _, _⟩ (.pointer (some ⟨p, 0, none⟩)) rfl (by kernel_rfl) (by kernel_rfl) (by kernel_rfl) (by kernel_rfl) (fun _ _ _ h => h) (Or.inl ⟨by rfl, ?_⟩) (KS.out _ (below_drew wc)) ?_
      · intro W hSw
        (try dsimp only at hSw)
        go_simp
      try simp only [Act.put, List.setIfInBounds_toArray, List.set_cons_zero, List.set_cons_succ]
      refine HT.take 5 ⟨some 32, _, _, _, _, _⟩ (.slice (some ⟨g2, o2, none⟩) P.length c) rfl (by kernel_rfl) (by kernel_rfl) (by kernel_rfl) (by kernel_rfl) (fun _ _ _ h => h) (Or.inl ⟨by rfl, ?_⟩) (KS.out _ (below_drew wc)) ?_
      · intro W hSw
        (try dsimp only at hSw)
        go_simp
      try simp only [Act.put, List.setIfInBounds_toArray, List.set_cons_zero, List.set_cons_succ]
      refine HT.take 6 ⟨some 33, _, _, _, _, _⟩ (.int .i64 (k : Int)) rfl (by kernel_rfl) (by kernel_rfl) (by kernel_rfl) (by kernel_rfl) (fun _ _ _ h => h) (Or.inl ⟨by rfl, ?_⟩) (KS.out _ (below_drew wc)) ?_
      · intro W hSw
        (try dsimp only at hSw)
        go_simp
      try simp only [Act.put, List.setIfInBounds_toArray, List.set_cons_zero, List.set_cons_succ]
      refine HT.take 7 ⟨some 34, _, _, _, _, _⟩ (.slice (some ⟨g2, o2, none⟩) k c) rfl (by kernel_rfl) (by kernel_rfl) (by kernel_rfl) (by kernel_rfl) (fun _ _ _ h => h) (Or.inl ⟨by rfl, ?_⟩) (KS.out _ (below_drew wc)) ?_
      · intro W hSw
        (try dsimp only at hSw)
        go_simp
      try simp only [Act.put, List.setIfInBounds_toArray, List.set_cons_zero, List.set_cons_succ]
      refine HT.take 9 ⟨some 36, _, _, _, _, _⟩ (.agg x.cells.toArray) rfl (by kernel_rfl) (by kernel_rfl) (by kernel_rfl) (by kernel_rfl) (fun _ _ _ h => h) (yieldsIf_load_mid (by rfl) 74 (.tmp 3) rfl g 0 rfl x.cells _ (fun W hW => hW.2.2.range) Try.underlying74 rfl xSize) (KS.out _ (below_drew wc)) ?_
      unfold Xe.cells
      try simp only [Act.put, List.setIfInBounds_toArray, List.set_cons_zero, List.set_cons_succ]
      refine HT.take 12 ⟨some 39, _, _, _, _, _⟩ (.pointer (some ⟨p, 0, none⟩)) rfl (by kernel_rfl) (by kernel_rfl) (by kernel_rfl) (by kernel_rfl) (fun _ _ _ h => h) (Or.inl ⟨by rfl, ?_⟩) (KS.out _ (below_drew wc)) ?_
      · intro W hSw
        (try dsimp only at hSw)
        go_simp
      try simp only [Act.put, List.setIfInBounds_toArray, List.set_cons_zero, List.set_cons_succ]
      refine HT.take 13 ⟨some 40, _, _, _, _, _⟩ (.pointer (some ⟨p, 0, none⟩)) rfl (by kernel_rfl) (by kernel_rfl) (by kernel_rfl) (by kernel_rfl) (fun _ _ _ h => h) (Or.inl ⟨by rfl, ?_⟩) (KS.out _ (below_drew wc)) ?_
      · intro W hSw
        (try dsimp only at hSw)
        go_simp
      try simp only [Act.put, List.setIfInBounds_toArray, List.set_cons_zero, List.set_cons_succ]
      refine HT.take 14 ⟨some 41, _, _, _, _, _⟩ (.pointer (some ⟨p, 0, none⟩)) rfl (by kernel_rfl) (by kernel_rfl) (by kernel_rfl) (by kernel_rfl) (fun _ _ _ h => h) (Or.inl ⟨by rfl, ?_⟩) (KS.out _ (below_drew wc)) ?_
      · intro W hSw
        (try dsimp only at hSw)
        go_simp
      try simp only [Act.put, List.setIfInBounds_toArray, List.set_cons_zero, List.set_cons_succ]
      refine HT.take 15 ⟨some 42, _, _, _, _, _⟩ (.slice (some ⟨g2, o2, none⟩) P.length c) rfl (by kernel_rfl) (by kernel_rfl) (by kernel_rfl) (by kernel_rfl) (fun _ _ _ h => h) (Or.inl ⟨by rfl, ?_⟩) (KS.out _ (below_drew wc)) ?_
      · intro W hSw
        (try dsimp only at hSw)
        go_simp
      try simp only [Act.put, List.setIfInBounds_toArray, List.set_cons_zero, List.set_cons_succ]
      refine HT.take 16 ⟨some 43, _, _, _, _, _⟩ (.int .i64 (k : Int)) rfl (by kernel_rfl) (by kernel_rfl) (by kernel_rfl) (by kernel_rfl) (fun _ _ _ h => h) (Or.inl ⟨by rfl, ?_⟩) (KS.out _ (below_drew wc)) ?_
      · intro W hSw
        (try dsimp only at hSw)
        go_simp
      try simp only [Act.put, List.setIfInBounds_toArray, List.set_cons_zero, List.set_cons_succ]
      refine HT.take 17 ⟨some 44, _, _, _, _, _⟩ (.slice A2 (P.length - k) (c - k)) rfl (by kernel_rfl) (by kernel_rfl) (by kernel_rfl) (by kernel_rfl) (fun _ _ _ h => h) (Or.inl ⟨by rfl, ?_⟩) (KS.out _ (below_drew wc)) ?_
      · intro W hSw
        (try dsimp only at hSw)
        go_simp
      try simp only [Act.put, List.setIfInBounds_toArray, List.set_cons_zero, List.set_cons_succ]
      refine HT.all [1, 10] (by kernel_rfl) (by simp) ?_
      refine HT.cons 1 ⟨some 28, _, _, _, _, _⟩ rfl (by decide) (fun K hK => ?_) ?_
      · go_simp
        refine hK _ _ (KS.out _ (below_dN (below_al (Below.refl _ wc) _) 1)) ?_
        clear hK K
        try simp only [Act.put, List.setIfInBounds_toArray, List.set_cons_zero, List.set_cons_succ]
        refine HT.all [8, 10] (by kernel_rfl) (by simp) ?_
        refine HT.cons 8 ⟨some 35, _, _, _, _, _⟩ rfl (by decide) (fun K hK => ?_) ?_
        · refine step_append_xk rfl (.tmp 28) (.tmp 34) rfl rfl _ _ [] (P.take k) _ 0 k rfl rfl rfl ⟨M0a.out, SR.out _ M0a.out.old⟩ HLa.out HL0.out 35 rfl ?_
          intro g1 d1 w6 h1
          have M1 := Lib.hid (show Xk wc w6 g1 d1 (P.take k) _ x from h1)
          clear h1
          refine hK _ _ (KS.out _ M1.out.old) ?_
          clear hK K
          try simp only [Act.put, List.setIfInBounds_toArray, List.set_cons_zero, List.set_cons_succ]
          refine HT.all [10] (by kernel_rfl) (by simp) ?_
          refine HT.cons 10 ⟨some 37, _, _, _, _, _⟩ rfl (by decide) (fun K hK => ?_) HT.nil
          go_simp
          refine hK _ _ (KS.out _ (below_al M1.out.old _)) ?_
          clear hK K
          try simp only [Act.put, List.setIfInBounds_toArray, List.set_cons_zero, List.set_cons_succ]
          refine HT.all [11] (by kernel_rfl) (by simp) ?_
          refine HT.cons 11 ⟨some 38, _, _, _, _, _⟩ rfl (by decide) (fun K hK => ?_) HT.nil
          refine step_append_xk rfl (.tmp 35) (.tmp 37) rfl rfl _ _ (P.take k) [x] _ k (k + 1) rfl HLk.out rfl ⟨M1.out.alloc, RdX.one ((M1.out.alloc).x _ rfl).1⟩ HLb.out HL1.out.symm 38 rfl ?_
          intro g2' d2 w7 h1
          have M2 := Lib.hid h1
          clear h1
          refine hK _ _ (KS.out _ M2.out.old) ?_
          clear hK K
          try simp only [Act.put, List.setIfInBounds_toArray, List.set_cons_zero, List.set_cons_succ]
          refine HT.all [18] (by kernel_rfl) (by simp) ?_
          refine HT.cons 18 ⟨some 45, _, _, _, _, _⟩ rfl (by decide) (fun K hK => ?_) HT.nil
          refine step_append_xk rfl (.tmp 38) (.tmp 44) rfl rfl _ _ ((P.take k) ++ [x]) (P.drop k) _ (k + 1) (P.length + 1) rfl HL1.out.symm rfl ⟨M2.out, SD.out _ M2.out.old⟩ HLc.out HL2.out.symm 45 rfl ?_
          intro g3 d3 w8 h1
          have M3 := Lib.hid h1
          clear h1
          refine hK _ _ (KS.out _ M3.out.old) ?_
          clear hK K
          try simp only [Act.put, List.setIfInBounds_toArray, List.set_cons_zero, List.set_cons_succ]
          refine HT.take 19 ⟨some 46, _, _, _, _, _⟩ (.pointer (some ⟨p, 0, none⟩)) rfl (by kernel_rfl) (by kernel_rfl) (by kernel_rfl) (by kernel_rfl) (fun _ _ _ h => h) (Or.inl ⟨by rfl, ?_⟩) (KS.out _ M3.out.old) ?_
          · intro W hSw
            (try dsimp only at hSw)
            go_simp
          try simp only [Act.put, List.setIfInBounds_toArray, List.set_cons_zero, List.set_cons_succ]
          refine HT.take 20 ⟨some 47, _, _, _, _, _⟩ (.pointer (some ⟨p, 0, none⟩)) rfl (by kernel_rfl) (by kernel_rfl) (by kernel_rfl) (by kernel_rfl) (fun _ _ _ h => h) (Or.inl ⟨by rfl, ?_⟩) (KS.out _ M3.out.old) ?_
          · intro W hSw
            (try dsimp only at hSw)
            go_simp
          try simp only [Act.put, List.setIfInBounds_toArray, List.set_cons_zero, List.set_cons_succ]
          refine HT.tail (by kernel_rfl) ?_
          obtain ⟨hp8, hf8, _⟩ := KS.out _ M3.out.old
          refine wpAny_ready (rs := [21]) (by kernel_rfl) (by simp) ?_
          refine AllReady.cons (o := ⟨none, _, _, _, _, _⟩) rfl (fun K hK => ?_) AllReady.nil
          go_simp
          refine hK _ _ ?_
          clear hK K
          try simp only [Act.put]
          refine wpAny_done (by kernel_rfl) ?_ _
          clear hp8 hf8
          go_wp2_with fail
          go_end0
          have M4 := M3.out
          have hst := HH.out.stored (below_to HB.out M4.old HB.out.size) (owns_base M4.row HB.out.size) HPR.out HPS.out HPO.out HP32.out
          rw [HL2.out] at hst
          exact ⟨_, _, _, rfl, HPE.out, hst.1, hst.2⟩
        · refine HT.cons 10 ⟨some 37, _, _, _, _, _⟩ rfl (by decide) (fun K hK => ?_) HT.nil
          go_simp
          refine hK _ _ (KS.out _ (below_dN (below_al (below_al (Below.refl _ wc) _) _) 1)) ?_
          clear hK K
          try simp only [Act.put, List.setIfInBounds_toArray, List.set_cons_zero, List.set_cons_succ]
          refine HT.all [8] (by kernel_rfl) (by simp) ?_
          refine HT.cons 8 ⟨some 35, _, _, _, _, _⟩ rfl (by decide) (fun K hK => ?_) HT.nil
          refine step_append_xk rfl (.tmp 28) (.tmp 34) rfl rfl _ _ [] (P.take k) _ 0 k rfl rfl rfl ⟨M0c.out, SR.out _ M0c.out.old⟩ HLa.out HL0.out 35 rfl ?_
          intro g1 d1 w6 h1
          have M1 := Lib.hid (show Xk wc w6 g1 d1 (P.take k) _ x from h1)
          clear h1
          refine hK _ _ (KS.out _ M1.out.old) ?_
          clear hK K
          try simp only [Act.put, List.setIfInBounds_toArray, List.set_cons_zero, List.set_cons_succ]
          refine HT.all [11] (by kernel_rfl) (by simp) ?_
          refine HT.cons 11 ⟨some 38, _, _, _, _, _⟩ rfl (by decide) (fun K hK => ?_) HT.nil
          refine step_append_xk rfl (.tmp 35) (.tmp 37) rfl rfl _ _ (P.take k) [x] _ k (k + 1) rfl HLk.out rfl ⟨M1.out, RdX.one ((M1.out).x _ rfl).1⟩ HLb.out HL1.out.symm 38 rfl ?_
          intro g2' d2 w7 h1
          have M2 := Lib.hid h1
          clear h1
          refine hK _ _ (KS.out _ M2.out.old) ?_
          clear hK K
          try simp only [Act.put, List.setIfInBounds_toArray, List.set_cons_zero, List.set_cons_succ]
          refine HT.all [18] (by kernel_rfl) (by simp) ?_
          refine HT.cons 18 ⟨some 45, _, _, _, _, _⟩ rfl (by decide) (fun K hK => ?_) HT.nil
          refine step_append_xk rfl (.tmp 38) (.tmp 44) rfl rfl _ _ ((P.take k) ++ [x]) (P.drop k) _ (k + 1) (P.length + 1) rfl HL1.out.symm rfl ⟨M2.out, SD.out _ M2.out.old⟩ HLc.out HL2.out.symm 45 rfl ?_
          intro g3 d3 w8 h1
          have M3 := Lib.hid h1
          clear h1
          refine hK _ _ (KS.out _ M3.out.old) ?_
          clear hK K
          try simp only [Act.put, List.setIfInBounds_toArray, List.set_cons_zero, List.set_cons_succ]
          refine HT.take 19 ⟨some 46, _, _, _, _, _⟩ (.pointer (some ⟨p, 0, none⟩)) rfl (by kernel_rfl) (by kernel_rfl) (by kernel_rfl) (by kernel_rfl) (fun _ _ _ h => h) (Or.inl ⟨by rfl, ?_⟩) (KS.out _ M3.out.old) ?_
          · intro W hSw
            (try dsimp only at hSw)
            go_simp
          try simp only [Act.put, List.setIfInBounds_toArray, List.set_cons_zero, List.set_cons_succ]
          refine HT.take 20 ⟨some 47, _, _, _, _, _⟩ (.pointer (some ⟨p, 0, none⟩)) rfl (by kernel_rfl) (by kernel_rfl) (by kernel_rfl) (by kernel_rfl) (fun _ _ _ h => h) (Or.inl ⟨by rfl, ?_⟩) (KS.out _ M3.out.old) ?_
          · intro W hSw
            (try dsimp only at hSw)
            go_simp
          try simp only [Act.put, List.setIfInBounds_toArray, List.set_cons_zero, List.set_cons_succ]
          refine HT.tail (by kernel_rfl) ?_
          obtain ⟨hp8, hf8, _⟩ := KS.out _ M3.out.old
          refine wpAny_ready (rs := [21]) (by kernel_rfl) (by simp) ?_
          refine AllReady.cons (o := ⟨none, _, _, _, _, _⟩) rfl (fun K hK => ?_) AllReady.nil
          go_simp
          refine hK _ _ ?_
          clear hK K
          try simp only [Act.put]
          refine wpAny_done (by kernel_rfl) ?_ _
          clear hp8 hf8
          go_wp2_with fail
          go_end0
          have M4 := M3.out
          have hst := HH.out.stored (below_to HB.out M4.old HB.out.size) (owns_base M4.row HB.out.size) HPR.out HPS.out HPO.out HP32.out
          rw [HL2.out] at hst
          exact ⟨_, _, _, rfl, HPE.out, hst.1, hst.2⟩
      · refine HT.cons 10 ⟨some 37, _, _, _, _, _⟩ rfl (by decide) (fun K hK => ?_) HT.nil
        go_simp
        refine hK _ _ (KS.out _ (below_dN (below_al (Below.refl _ wc) _) 1)) ?_
        clear hK K
        try simp only [Act.put, List.setIfInBounds_toArray, List.set_cons_zero, List.set_cons_succ]
        refine HT.all [1] (by kernel_rfl) (by simp) ?_
        refine HT.cons 1 ⟨some 28, _, _, _, _, _⟩ rfl (by decide) (fun K hK => ?_) HT.nil
        go_simp
        refine hK _ _ (KS.out _ (below_dN (below_al (below_al (Below.refl _ wc) _) _) 1)) ?_
        clear hK K
        try simp only [Act.put, List.setIfInBounds_toArray, List.set_cons_zero, List.set_cons_succ]
        refine HT.all [8] (by kernel_rfl) (by simp) ?_
        refine HT.cons 8 ⟨some 35, _, _, _, _, _⟩ rfl (by decide) (fun K hK => ?_) HT.nil
        refine step_append_xk rfl (.tmp 28) (.tmp 34) rfl rfl _ _ [] (P.take k) _ 0 k rfl rfl rfl ⟨M0b.out, SR.out _ M0b.out.old⟩ HLa.out HL0.out 35 rfl ?_
        intro g1 d1 w6 h1
        have M1 := Lib.hid (show Xk wc w6 g1 d1 (P.take k) _ x from h1)
        clear h1
        refine hK _ _ (KS.out _ M1.out.old) ?_
        clear hK K
        try simp only [Act.put, List.setIfInBounds_toArray, List.set_cons_zero, List.set_cons_succ]
        refine HT.all [11] (by kernel_rfl) (by simp) ?_
        refine HT.cons 11 ⟨some 38, _, _, _, _, _⟩ rfl (by decide) (fun K hK => ?_) HT.nil
        refine step_append_xk rfl (.tmp 35) (.tmp 37) rfl rfl _ _ (P.take k) [x] _ k (k + 1) rfl HLk.out rfl ⟨M1.out, RdX.one ((M1.out).x _ rfl).1⟩ HLb.out HL1.out.symm 38 rfl ?_
        intro g2' d2 w7 h1
        have M2 := Lib.hid h1
        clear h1
        refine hK _ _ (KS.out _ M2.out.old) ?_
        clear hK K
        try simp only [Act.put, List.setIfInBounds_toArray, List.set_cons_zero, List.set_cons_succ]
        refine HT.all [18] (by kernel_rfl) (by simp) ?_
        refine HT.cons 18 ⟨some 45, _, _, _, _, _⟩ rfl (by decide) (fun K hK => ?_) HT.nil
        refine step_append_xk rfl (.tmp 38) (.tmp 44) rfl rfl _ _ ((P.take k) ++ [x]) (P.drop k) _ (k + 1) (P.length + 1) rfl HL1.out.symm rfl ⟨M2.out, SD.out _ M2.out.old⟩ HLc.out HL2.out.symm 45 rfl ?_
        intro g3 d3 w8 h1
        have M3 := Lib.hid h1
        clear h1
        refine hK _ _ (KS.out _ M3.out.old) ?_
        clear hK K
        try simp only [Act.put, List.setIfInBounds_toArray, List.set_cons_zero, List.set_cons_succ]
        refine HT.take 19 ⟨some 46, _, _, _, _, _⟩ (.pointer (some ⟨p, 0, none⟩)) rfl (by kernel_rfl) (by kernel_rfl) (by kernel_rfl) (by kernel_rfl) (fun _ _ _ h => h) (Or.inl ⟨by rfl, ?_⟩) (KS.out _ M3.out.old) ?_
        · intro W hSw
          (try dsimp only at hSw)
          go_simp
        try simp only [Act.put, List.setIfInBounds_toArray, List.set_cons_zero, List.set_cons_succ]
        refine HT.take 20 ⟨some 47, _, _, _, _, _⟩ (.pointer (some ⟨p, 0, none⟩)) rfl (by kernel_rfl) (by kernel_rfl) (by kernel_rfl) (by kernel_rfl) (fun _ _ _ h => h) (Or.inl ⟨by rfl, ?_⟩) (KS.out _ M3.out.old) ?_
        · intro W hSw
          (try dsimp only at hSw)
          go_simp
        try simp only [Act.put, List.setIfInBounds_toArray, List.set_cons_zero, List.set_cons_succ]
        refine HT.tail (by kernel_rfl) ?_
        obtain ⟨hp8, hf8, _⟩ := KS.out _ M3.out.old
        refine wpAny_ready (rs := [21]) (by kernel_rfl) (by simp) ?_
        refine AllReady.cons (o := ⟨none, _, _, _, _, _⟩) rfl (fun K hK => ?_) AllReady.nil
        go_simp
        refine hK _ _ ?_
        clear hK K
        try simp only [Act.put]
        refine wpAny_done (by kernel_rfl) ?_ _
        clear hp8 hf8
        go_wp2_with fail
        go_end0
        have M4 := M3.out
        have hst := HH.out.stored (below_to HB.out M4.old HB.out.size) (owns_base M4.row HB.out.size) HPR.out HPS.out HPO.out HP32.out
        rw [HL2.out] at hst
        exact ⟨_, _, _, rfl, HPE.out, hst.1, hst.2⟩
end Go.Proofs.Ytfeipeninmclkaa
