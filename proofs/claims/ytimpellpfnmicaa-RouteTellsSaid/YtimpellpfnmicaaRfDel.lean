/-
  What is proved: the document's Del by contract.
  Conditions: the numbers fit their types.
-/
import Derived.Test.YtimpellpfnmicaaRfAddOk
namespace Go.Proofs.Ytimpellpfnmicaa
open Go.RowKit

theorem del_split : ∀ (L : List Rt) (k : Nat) (s : Rt) (d b : Int), Srt L → L[k]? = some s → Same d b s → delL L d b = L.take k ++ L.drop (k + 1)
  | [], _, _, _, _, _, h, _ => by simp at h
  | x :: l, 0, s, d, b, hs, h, hk => by
    obtain rfl : x = s := by simpa using h
    obtain ⟨ha, hb⟩ := List.pairwise_cons.1 hs
    have e : delL (x :: l) d b = delL l d b := by simp [delL, hk]
    rw [e]
    show l.filter _ = l
    exact List.filter_eq_self.2 fun z hz => by
      have : ¬ Same d b z := fun h => (ha z hz).ne d b ⟨hk, h⟩
      simp [this]
  | x :: l, k + 1, s, d, b, hs, h, hk => by
    obtain ⟨ha, hb⟩ := List.pairwise_cons.1 hs
    have h' : l[k]? = some s := by simpa using h
    have hx : ¬ Same d b x := fun e => (ha s (List.mem_of_getElem? h')).ne d b ⟨e, hk⟩
    have e : delL (x :: l) d b = x :: delL l d b := by simp [delL, hx]
    rw [e, del_split l k s d b hb h' hk]
    rfl

set_option maxRecDepth 100000 in
set_option maxHeartbeats 4000000 in
theorem rdel_any (L : List Rt) (d b : Int) (p B : Nat) (v : Value) (w : World) (h : Rf w p B v L) (hBw : B ≤ w.heap.size) :
    Calls Try.prog 13 #[.pointer (some ⟨p, 0, none⟩), .int .u32 d, .int .i64 b] w fun e w' => ∃ v', e = .returned (.int .i64 (delCode L d b)) ∧ Rf w' p B v' (delL L d b) ∧ Mv w w' p v := by
  obtain ⟨A, c, rfl, hc1, hc2, hRI, hFm⟩ := h.open2
  obtain ⟨z, hz⟩ := at_ex (L := L) d b
  have HF := Lib.hid (rlook_any L h.srt h.few d b z hz p A c hc1 w h.cell hRI)
  have HH := Lib.hid h
  have HBw := Lib.hid hBw
  have h64 := h.few
  have RI := Lib.hid hRI
  rcases hz with ⟨rfl, hno⟩ | ⟨k, s, rfl, hk, hsm⟩
  · have e1 : delCode L d b = 6 := by unfold delCode; rw [hno]; rfl
    have e2 : delL L d b = L := del_none (by rw [hno]; rfl)
    rw [e1, e2]
    clear e1 e2 h hBw hRI hno
    go_enter Try.func13, Try.ntmps13
    go_wp2_with (go_at_call 22; refine HF.out.mono ?_; rintro e w3 ⟨rfl, rfl⟩)
    go_ret
    exact ⟨_, rfl, HH.out, Mv.of_below (Below.refl _ _)⟩
  · have e1 : delCode L d b = 0 := by
      unfold delCode
      rw [look_mem h.srt (List.mem_of_getElem? hk) hsm]
      rfl
    rw [e1]
    have hlt := (List.getElem?_eq_some_iff.1 hk).1
    obtain ⟨g2, o2, hA, _⟩ := hRI k s hk
    subst hA
    have HDL := Lib.hid (del_split L k s d b h.srt hk hsm)
    obtain ⟨m, hm⟩ : ∃ m : Nat, k + 1 = m := ⟨_, rfl⟩
    have hw : IntKind.i64.wrap ((k : Int) + 1) = (m : Int) := by rw [IntKind.wrap_i64]; omega
    rw [hm] at HDL
    have hl1 : (L.take k).length = k := by rw [List.length_take]; omega
    have HDN := Lib.hid (show (delL L d b).length = L.length - 1 by rw [HDL.out, List.length_append, hl1, List.length_drop]; omega)
    have HD64 := Lib.hid (show (delL L d b).length ≤ 64 by rw [HDN.out]; omega)
    have HLk := Lib.hid hl1.symm
    have HL1 := Lib.hid (show L.length - 1 = (L.take k ++ L.drop m).length by rw [List.length_append, hl1, List.length_drop]; omega)
    have HL0 := Lib.hid (show k = ([] ++ L.take k).length by rw [List.nil_append, hl1])
    have HLa := Lib.hid (show ([] : List Rt).length + (L.take k).length ≤ 200 by rw [hl1]; simp; omega)
    have HLb := Lib.hid (show (L.take k).length + (L.drop m).length ≤ 200 by rw [hl1, List.length_drop]; omega)
    have hkc : k ≤ c := by omega
    have hkc1 : m ≤ c := by omega
    have hkl : m ≤ L.length := by omega
    obtain ⟨A2, hA2⟩ : ∃ A2, (if c = m then some (⟨g2, o2, none⟩ : Addr) else some ⟨g2, o2 + m * 4, none⟩) = A2 := ⟨_, rfl⟩
    clear e1 h hBw hRI hl1 hsm
    go_enter Try.func13, Try.ntmps13
    go_upto_region 4 with (go_at_call 22; refine HF.out.mono ?_; rintro e w3 ⟨rfl, hw3⟩; subst w3)
    clear HF
    have M0 := Lib.hid ((Rk.first (Below.refl w.heap.size w) s).below (below_drew _))
    have KS : Hid (∀ W', Below w.heap.size w W' → W'.cell? ⟨p, 0, none⟩ = some (.slice (some ⟨g2, o2, none⟩) L.length c) ∧ W'.frozen? ⟨p, 0, none⟩ = false) := Lib.hid (fun W' hW => by
      have t := HH.out.below hW
      exact ⟨t.cell, by simp [World.frozen?, t.blk]⟩)
    have SR := Lib.hid (fun W' (hW : Below w.heap.size w W') => RdR.front (RI.out.below hW) (Nat.le_of_lt hlt) c)
    have SD : Hid (∀ W', Below w.heap.size w W' → RdR W' (.slice A2 (L.length - m) (c - m)) (L.drop m)) := Lib.hid (fun W' hW => RdR.behind (RI.out.below hW) (c - m) (fun hlt => by rw [← hA2, if_neg (by omega)]))
    refine HT.start (S := fun W' => W'.cell? ⟨p, 0, none⟩ = some (.slice (some ⟨g2, o2, none⟩) L.length c) ∧ W'.frozen? ⟨p, 0, none⟩ = false) 19 1 (by kernel_rfl) rfl ?_
    refine HT.take 0 ⟨some 14, _, _, _, _, _⟩ (.pointer (some ⟨p, 0, none⟩)) rfl (by kernel_rfl) (by kernel_rfl) (by kernel_rfl) (by kernel_rfl) (fun _ _ _ h => h) (Or.inl ⟨by rfl, ?_⟩) (KS.out _ (below_drew w)) ?_
    · intro W hSw
      (try dsimp only at hSw)
      go_simp
    try simp only [Act.put, List.setIfInBounds_toArray, List.set_cons_zero, List.set_cons_succ]
    refine HT.take 2 ⟨some 16, _, _, _, _, _⟩ (.pointer (some ⟨p, 0, none⟩)) rfl (by kernel_rfl) (by kernel_rfl) (by kernel_rfl) (by kernel_rfl) (fun _ _ _ h => h) (Or.inl ⟨by rfl, ?_⟩) (KS.out _ (below_drew w)) ?_
    · intro W hSw
      (try dsimp only at hSw)
      go_simp
    try simp only [Act.put, List.setIfInBounds_toArray, List.set_cons_zero, List.set_cons_succ]
    refine HT.take 3 ⟨some 17, _, _, _, _, _⟩ (.pointer (some ⟨p, 0, none⟩)) rfl (by kernel_rfl) (by kernel_rfl) (by kernel_rfl) (by kernel_rfl) (fun _ _ _ h => h) (Or.inl ⟨by rfl, ?_⟩) (KS.out _ (below_drew w)) ?_
    · intro W hSw
      (try dsimp only at hSw)
      go_simp
    try simp only [Act.put, List.setIfInBounds_toArray, List.set_cons_zero, List.set_cons_succ]
    refine HT.take 4 ⟨some 18, _, _, _, _, _⟩ (.pointer (some ⟨p, 0, none⟩)) rfl (by kernel_rfl) (by kernel_rfl) (by kernel_rfl) (by kernel_rfl) (fun _ _ _ h => h) (Or.inl ⟨by rfl, ?_⟩) (KS.out _ (below_drew w)) ?_
    · intro W hSw
      (try dsimp only at hSw)
      go_simp
    try simp only [Act.put, List.setIfInBounds_toArray, List.set_cons_zero, List.set_cons_succ]
    refine HT.take 5 ⟨some 19, _, _, _, _, _⟩ (.slice (some ⟨g2, o2, none⟩) L.length c) rfl (by kernel_rfl) (by kernel_rfl) (by kernel_rfl) (by kernel_rfl) (fun _ _ _ h => h) (Or.inl ⟨by rfl, ?_⟩) (KS.out _ (below_drew w)) ?_
    · intro W hSw
      (try dsimp only at hSw)
      go_simp
    try simp only [Act.put, List.setIfInBounds_toArray, List.set_cons_zero, List.set_cons_succ]
    refine HT.take 6 ⟨some 20, _, _, _, _, _⟩ (.int .i64 (k : Int)) rfl (by kernel_rfl) (by kernel_rfl) (by kernel_rfl) (by kernel_rfl) (fun _ _ _ h => h) (Or.inl ⟨by rfl, ?_⟩) (KS.out _ (below_drew w)) ?_
    · intro W hSw
      (try dsimp only at hSw)
      go_simp
    try simp only [Act.put, List.setIfInBounds_toArray, List.set_cons_zero, List.set_cons_succ]
    refine HT.take 7 ⟨some 21, _, _, _, _, _⟩ (.slice (some ⟨g2, o2, none⟩) k c) rfl (by kernel_rfl) (by kernel_rfl) (by kernel_rfl) (by kernel_rfl) (fun _ _ _ h => h) (Or.inl ⟨by rfl, ?_⟩) (KS.out _ (below_drew w)) ?_
    · intro W hSw
      (try dsimp only at hSw)
      go_simp
    try simp only [Act.put, List.setIfInBounds_toArray, List.set_cons_zero, List.set_cons_succ]
    refine HT.take 9 ⟨some 23, _, _, _, _, _⟩ (.pointer (some ⟨p, 0, none⟩)) rfl (by kernel_rfl) (by kernel_rfl) (by kernel_rfl) (by kernel_rfl) (fun _ _ _ h => h) (Or.inl ⟨by rfl, ?_⟩) (KS.out _ (below_drew w)) ?_
    · intro W hSw
      (try dsimp only at hSw)
      go_simp
    try simp only [Act.put, List.setIfInBounds_toArray, List.set_cons_zero, List.set_cons_succ]
    refine HT.take 10 ⟨some 24, _, _, _, _, _⟩ (.pointer (some ⟨p, 0, none⟩)) rfl (by kernel_rfl) (by kernel_rfl) (by kernel_rfl) (by kernel_rfl) (fun _ _ _ h => h) (Or.inl ⟨by rfl, ?_⟩) (KS.out _ (below_drew w)) ?_
    · intro W hSw
      (try dsimp only at hSw)
      go_simp
    try simp only [Act.put, List.setIfInBounds_toArray, List.set_cons_zero, List.set_cons_succ]
    refine HT.take 11 ⟨some 25, _, _, _, _, _⟩ (.pointer (some ⟨p, 0, none⟩)) rfl (by kernel_rfl) (by kernel_rfl) (by kernel_rfl) (by kernel_rfl) (fun _ _ _ h => h) (Or.inl ⟨by rfl, ?_⟩) (KS.out _ (below_drew w)) ?_
    · intro W hSw
      (try dsimp only at hSw)
      go_simp
    try simp only [Act.put, List.setIfInBounds_toArray, List.set_cons_zero, List.set_cons_succ]
    refine HT.take 12 ⟨some 26, _, _, _, _, _⟩ (.slice (some ⟨g2, o2, none⟩) L.length c) rfl (by kernel_rfl) (by kernel_rfl) (by kernel_rfl) (by kernel_rfl) (fun _ _ _ h => h) (Or.inl ⟨by rfl, ?_⟩) (KS.out _ (below_drew w)) ?_
    · intro W hSw
      (try dsimp only at hSw)
      go_simp
    try simp only [Act.put, List.setIfInBounds_toArray, List.set_cons_zero, List.set_cons_succ]
    refine HT.take 13 ⟨some 27, _, _, _, _, _⟩ (.int .i64 (k : Int)) rfl (by kernel_rfl) (by kernel_rfl) (by kernel_rfl) (by kernel_rfl) (fun _ _ _ h => h) (Or.inl ⟨by rfl, ?_⟩) (KS.out _ (below_drew w)) ?_
    · intro W hSw
      (try dsimp only at hSw)
      go_simp
    try simp only [Act.put, List.setIfInBounds_toArray, List.set_cons_zero, List.set_cons_succ]
    refine HT.take 14 ⟨some 28, _, _, _, _, _⟩ (.int .i64 (m : Int)) rfl (by kernel_rfl) (by kernel_rfl) (by kernel_rfl) (by kernel_rfl) (fun _ _ _ h => h) (Or.inl ⟨by rfl, ?_⟩) (KS.out _ (below_drew w)) ?_
    · intro W hSw
      (try dsimp only at hSw)
      go_simp
    try simp only [Act.put, List.setIfInBounds_toArray, List.set_cons_zero, List.set_cons_succ]
    refine HT.take 15 ⟨some 29, _, _, _, _, _⟩ (.slice A2 (L.length - m) (c - m)) rfl (by kernel_rfl) (by kernel_rfl) (by kernel_rfl) (by kernel_rfl) (fun _ _ _ h => h) (Or.inl ⟨by rfl, ?_⟩) (KS.out _ (below_drew w)) ?_
    · intro W hSw
      (try dsimp only at hSw)
      go_simp
    try simp only [Act.put, List.setIfInBounds_toArray, List.set_cons_zero, List.set_cons_succ]
    refine HT.all [1] (by kernel_rfl) (by simp) ?_
    refine HT.cons 1 ⟨some 15, _, _, _, _, _⟩ rfl (by decide) (fun K hK => ?_) HT.nil
    go_simp
    refine hK _ _ (KS.out _ (below_dN (below_al (Below.refl _ w) _) 1)) ?_
    clear hK K
    try simp only [Act.put, List.setIfInBounds_toArray, List.set_cons_zero, List.set_cons_succ]
    refine HT.all [8] (by kernel_rfl) (by simp) ?_
    refine HT.cons 8 ⟨some 22, _, _, _, _, _⟩ rfl (by decide) (fun K hK => ?_) HT.nil
    refine step_append_rk rfl (.tmp 15) (.tmp 21) rfl rfl _ _ [] (L.take k) _ 0 k rfl rfl rfl ⟨M0.out, SR.out _ M0.out.old⟩ HLa.out HL0.out 22 rfl ?_
    intro g1 d1 w6 h1
    have M1 := Lib.hid (show Rk w w6 g1 d1 (L.take k) _ s from h1)
    clear h1
    refine hK _ _ (KS.out _ M1.out.old) ?_
    clear hK K
    try simp only [Act.put, List.setIfInBounds_toArray, List.set_cons_zero, List.set_cons_succ]
    refine HT.all [16] (by kernel_rfl) (by simp) ?_
    refine HT.cons 16 ⟨some 30, _, _, _, _, _⟩ rfl (by decide) (fun K hK => ?_) HT.nil
    refine step_append_rk rfl (.tmp 22) (.tmp 29) rfl rfl _ _ (L.take k) (L.drop m) _ k (L.length - 1) rfl HLk.out rfl ⟨M1.out, SD.out _ M1.out.old⟩ HLb.out HL1.out 30 rfl ?_
    intro g3 d3 w8 h1
    have M3 := Lib.hid h1
    clear h1
    refine hK _ _ (KS.out _ M3.out.old) ?_
    clear hK K
    try simp only [Act.put, List.setIfInBounds_toArray, List.set_cons_zero, List.set_cons_succ]
    refine HT.take 17 ⟨some 31, _, _, _, _, _⟩ (.pointer (some ⟨p, 0, none⟩)) rfl (by kernel_rfl) (by kernel_rfl) (by kernel_rfl) (by kernel_rfl) (fun _ _ _ h => h) (Or.inl ⟨by rfl, ?_⟩) (KS.out _ M3.out.old) ?_
    · intro W hSw
      (try dsimp only at hSw)
      go_simp
    try simp only [Act.put, List.setIfInBounds_toArray, List.set_cons_zero, List.set_cons_succ]
    refine HT.take 18 ⟨some 32, _, _, _, _, _⟩ (.pointer (some ⟨p, 0, none⟩)) rfl (by kernel_rfl) (by kernel_rfl) (by kernel_rfl) (by kernel_rfl) (fun _ _ _ h => h) (Or.inl ⟨by rfl, ?_⟩) (KS.out _ M3.out.old) ?_
    · intro W hSw
      (try dsimp only at hSw)
      go_simp
    try simp only [Act.put, List.setIfInBounds_toArray, List.set_cons_zero, List.set_cons_succ]
    refine HT.tail (by kernel_rfl) ?_
    obtain ⟨hp8, hf8⟩ := KS.out _ M3.out.old
    refine wpAny_ready (rs := [19]) (by kernel_rfl) (by simp) ?_
    refine AllReady.cons (o := ⟨none, _, _, _, _, _⟩) rfl (fun K hK => ?_) AllReady.nil
    go_simp
    refine hK _ _ ?_
    clear hK K
    try simp only [Act.put]
    refine wpAny_done (by kernel_rfl) ?_ _
    clear hp8 hf8
    go_wp2_with fail
    go_ret
    have M4 := M3.out
    rw [← HDL.out] at M4
    have hst := HH.out.stored HBw.out M4 (srt_del HH.out.srt d b) (del_rights HH.out.right d b) HD64.out
    rw [HDN.out] at hst
    exact ⟨_, rfl, hst.1, hst.2⟩
end Go.Proofs.Ytimpellpfnmicaa
