/-
  What is proved: the document's cut by contract.
  Conditions: the place is one of the row's.
-/
import Derived.Test.YtfeipeninmclkaaRcRow
import Derived.StillTailTactics
import Derived.Deep.DeepCutAuto
namespace Go.Proofs.Ytfeipeninmclkaa
open Go.RowKit

def CutAt (P : List Xe) (k : Nat) (p : Nat) (F : Nat → Prop) (w : World) (e : Ending) (w' : World) : Prop := ∃ v' F', e = .returned (.tuple #[]) ∧ Rc w' p F' v' (P.take k ++ P.drop (k + 1)) ∧ Did w w' F F'
theorem cut_sub (P : List Xe) (k : Nat) : (P.take k ++ P.drop (k + 1)).Sublist P := by
  rw [← List.eraseIdx_eq_take_drop_succ]
  exact List.eraseIdx_sublist ..

set_option maxRecDepth 100000 in
set_option maxHeartbeats 4000000 in
theorem rcut_any (P : List Xe) (k : Nat) (hk : k < P.length) (p : Nat) (F : Nat → Prop) (v : Value) (w : World) (h : Rc w p F v P) :
    Calls Try.prog 28 #[.pointer (some ⟨p, 0, none⟩), .int .i64 (k : Int)] w (CutAt P k p F w) := by
  obtain ⟨A, c, rfl, hc1, hc2, hRI, hFm⟩ := h.open
  have HH := Lib.hid h
  have h32 := h.few
  have RI := Lib.hid hRI
  obtain ⟨s, hs⟩ : ∃ s, P[k]? = some s := ⟨P[k], List.getElem?_eq_getElem hk⟩
  obtain ⟨g2, o2, hA, _⟩ := hRI k s hs
  subst hA
  have HSub := Lib.hid (cut_sub P k)
  obtain ⟨m, hm⟩ : ∃ m : Nat, k + 1 = m := ⟨_, rfl⟩
  have hw : IntKind.i64.wrap ((k : Int) + 1) = (m : Int) := by rw [IntKind.wrap_i64]; omega
  unfold CutAt
  rw [hm] at HSub ⊢
  have hl1 : (P.take k).length = k := by rw [List.length_take]; omega
  have HLk := Lib.hid hl1.symm
  have HL1 := Lib.hid (show P.length - 1 = (P.take k ++ P.drop m).length by rw [List.length_append, hl1, List.length_drop]; omega)
  have HL0 := Lib.hid (show k = ([] ++ P.take k).length by rw [List.nil_append, hl1])
  have HLa := Lib.hid (show ([] : List Xe).length + (P.take k).length ≤ 200 by rw [hl1]; simp; omega)
  have HLb := Lib.hid (show (P.take k).length + (P.drop m).length ≤ 200 by rw [hl1, List.length_drop]; omega)
  have hkc : k ≤ c := by omega
  have hkc1 : m ≤ c := by omega
  have hkl : m ≤ P.length := by omega
  obtain ⟨A2, hA2⟩ : ∃ A2, (if c = m then some (⟨g2, o2, none⟩ : Addr) else some ⟨g2, o2 + m * 11, none⟩) = A2 := ⟨_, rfl⟩
  clear h hRI hl1 hs hFm
  go_enter Try.func28, Try.ntmps28
  go_upto_region 0 with fail
  have M0 := Lib.hid ((Xk.first (Below.refl w.heap.size w) s).below (below_drew _))
  have KS : Hid (∀ W', Below w.heap.size w W' → W'.cell? ⟨p, 0, none⟩ = some (.slice (some ⟨g2, o2, none⟩) P.length c) ∧ W'.frozen? ⟨p, 0, none⟩ = false) := Lib.hid (fun W' hW => ⟨(HH.out.below hW).cell, (HH.out.below hW).thaw⟩)
  have SR := Lib.hid (fun W' (hW : Below w.heap.size w W') => RdX.front (RI.out.below hW) (Nat.le_of_lt hk) c)
  have SD : Hid (∀ W', Below w.heap.size w W' → RdX W' (.slice A2 (P.length - m) (c - m)) (P.drop m)) := Lib.hid (fun W' hW => RdX.behind (RI.out.below hW) (c - m) (fun hlt => by rw [← hA2, if_neg (by omega)]))
  refine HT.start (S := fun W' => W'.cell? ⟨p, 0, none⟩ = some (.slice (some ⟨g2, o2, none⟩) P.length c) ∧ W'.frozen? ⟨p, 0, none⟩ = false) 19 1 (by kernel_rfl) rfl ?_
  refine HT.take 0 ⟨some 4, _, _, _, _, _⟩ (.pointer (some ⟨p, 0, none⟩)) rfl (by kernel_rfl) (by kernel_rfl) (by kernel_rfl) (by kernel_rfl) (fun _ _ _ h => h) (Or.inl ⟨by rfl, ?_⟩) (KS.out _ (below_drew w)) ?_
  · intro W hSw
    (try dsimp only at hSw)
    go_simp
  try simp only [Act.put, List.setIfInBounds_toArray, List.set_cons_zero, List.set_cons_succ]
  refine HT.take 2 ⟨some 6, _, _, _, _, _⟩ (.pointer (some ⟨p, 0, none⟩)) rfl (by kernel_rfl) (by kernel_rfl) (by kernel_rfl) (by kernel_rfl) (fun _ _ _ h => h) (Or.inl ⟨by rfl, ?_⟩) (KS.out _ (below_drew w)) ?_
  · intro W hSw
    (try dsimp only at hSw)
    go_simp
  try simp only [Act.put, List.setIfInBounds_toArray, List.set_cons_zero, List.set_cons_succ]
  refine HT.take 3 ⟨some 7, _, _, _, _, _⟩ (.pointer (some ⟨p, 0, none⟩)) rfl (by kernel_rfl) (by kernel_rfl) (by kernel_rfl) (by kernel_rfl) (fun _ _ _ h => h) (Or.inl ⟨by rfl, ?_⟩) (KS.out _ (below_drew w)) ?_
  · intro W hSw
    (try dsimp only at hSw)
    go_simp
  try simp only [Act.put, List.setIfInBounds_toArray, List.set_cons_zero, List.set_cons_succ]
  refine HT.take 4 ⟨some 8, _, _, _, _, _⟩ (.pointer (some ⟨p, 0, none⟩)) rfl (by kernel_rfl) (by kernel_rfl) (by kernel_rfl) (by kernel_rfl) (fun _ _ _ h => h) (Or.inl ⟨by rfl, ?_⟩) (KS.out _ (below_drew w)) ?_
  · intro W hSw
    (try dsimp only at hSw)
    go_simp
  try simp only [Act.put, List.setIfInBounds_toArray, List.set_cons_zero, List.set_cons_succ]
  refine HT.take 5 ⟨some 9, _, _, _, _, _⟩ (.slice (some ⟨g2, o2, none⟩) P.length c) rfl (by kernel_rfl) (by kernel_rfl) (by kernel_rfl) (by kernel_rfl) (fun _ _ _ h => h) (Or.inl ⟨by rfl, ?_⟩) (KS.out _ (below_drew w)) ?_
  · intro W hSw
    (try dsimp only at hSw)
    go_simp
  try simp only [Act.put, List.setIfInBounds_toArray, List.set_cons_zero, List.set_cons_succ]
  refine HT.take 6 ⟨some 10, _, _, _, _, _⟩ (.int .i64 (k : Int)) rfl (by kernel_rfl) (by kernel_rfl) (by kernel_rfl) (by kernel_rfl) (fun _ _ _ h => h) (Or.inl ⟨by rfl, ?_⟩) (KS.out _ (below_drew w)) ?_
  · intro W hSw
    (try dsimp only at hSw)
    go_simp
  try simp only [Act.put, List.setIfInBounds_toArray, List.set_cons_zero, List.set_cons_succ]
  refine HT.take 7 ⟨some 11, _, _, _, _, _⟩ (.slice (some ⟨g2, o2, none⟩) k c) rfl (by kernel_rfl) (by kernel_rfl) (by kernel_rfl) (by kernel_rfl) (fun _ _ _ h => h) (Or.inl ⟨by rfl, ?_⟩) (KS.out _ (below_drew w)) ?_
  · intro W hSw
    (try dsimp only at hSw)
    go_simp
  try simp only [Act.put, List.setIfInBounds_toArray, List.set_cons_zero, List.set_cons_succ]
  refine HT.take 9 ⟨some 13, _, _, _, _, _⟩ (.pointer (some ⟨p, 0, none⟩)) rfl (by kernel_rfl) (by kernel_rfl) (by kernel_rfl) (by kernel_rfl) (fun _ _ _ h => h) (Or.inl ⟨by rfl, ?_⟩) (KS.out _ (below_drew w)) ?_
  · intro W hSw
    (try dsimp only at hSw)
    go_simp
  try simp only [Act.put, List.setIfInBounds_toArray, List.set_cons_zero, List.set_cons_succ]
  refine HT.take 10 ⟨some 14, _, _, _, _, _⟩ (.pointer (some ⟨p, 0, none⟩)) rfl (by kernel_rfl) (by kernel_rfl) (by kernel_rfl) (by kernel_rfl) (fun _ _ _ h => h) (Or.inl ⟨by rfl, ?_⟩) (KS.out _ (below_drew w)) ?_
  · intro W hSw
    (try dsimp only at hSw)
    go_simp
  try simp only [Act.put, List.setIfInBounds_toArray, List.set_cons_zero, List.set_cons_succ]
  refine HT.take 11 ⟨some 15, _, _, _, _, _⟩ (.pointer (some ⟨p, 0, none⟩)) rfl (by kernel_rfl) (by kernel_rfl) (by kernel_rfl) (by kernel_rfl) (fun _ _ _ h => h) (Or.inl ⟨by rfl, ?_⟩) (KS.out _ (below_drew w)) ?_
  · intro W hSw
    (try dsimp only at hSw)
    go_simp
  try simp only [Act.put, List.setIfInBounds_toArray, List.set_cons_zero, List.set_cons_succ]
  refine HT.take 12 ⟨some 16, _, _, _, _, _⟩ (.slice (some ⟨g2, o2, none⟩) P.length c) rfl (by kernel_rfl) (by kernel_rfl) (by kernel_rfl) (by kernel_rfl) (fun _ _ _ h => h) (Or.inl ⟨by rfl, ?_⟩) (KS.out _ (below_drew w)) ?_
  · intro W hSw
    (try dsimp only at hSw)
    go_simp
  try simp only [Act.put, List.setIfInBounds_toArray, List.set_cons_zero, List.set_cons_succ]
  refine HT.take 13 ⟨some 17, _, _, _, _, _⟩ (.int .i64 (k : Int)) rfl (by kernel_rfl) (by kernel_rfl) (by kernel_rfl) (by kernel_rfl) (fun _ _ _ h => h) (Or.inl ⟨by rfl, ?_⟩) (KS.out _ (below_drew w)) ?_
  · intro W hSw
    (try dsimp only at hSw)
    go_simp
  try simp only [Act.put, List.setIfInBounds_toArray, List.set_cons_zero, List.set_cons_succ]
  refine HT.take 14 ⟨some 18, _, _, _, _, _⟩ (.int .i64 (m : Int)) rfl (by kernel_rfl) (by kernel_rfl) (by kernel_rfl) (by kernel_rfl) (fun _ _ _ h => h) (Or.inl ⟨by rfl, ?_⟩) (KS.out _ (below_drew w)) ?_
  · intro W hSw
    (try dsimp only at hSw)
    go_simp
  try simp only [Act.put, List.setIfInBounds_toArray, List.set_cons_zero, List.set_cons_succ]
  refine HT.take 15 ⟨some 19, _, _, _, _, _⟩ (.slice A2 (P.length - m) (c - m)) rfl (by kernel_rfl) (by kernel_rfl) (by kernel_rfl) (by kernel_rfl) (fun _ _ _ h => h) (Or.inl ⟨by rfl, ?_⟩) (KS.out _ (below_drew w)) ?_
  · intro W hSw
    (try dsimp only at hSw)
    go_simp
  try simp only [Act.put, List.setIfInBounds_toArray, List.set_cons_zero, List.set_cons_succ]
  refine HT.all [1] (by kernel_rfl) (by simp) ?_
  refine HT.cons 1 ⟨some 5, _, _, _, _, _⟩ rfl (by decide) (fun K hK => ?_) HT.nil
  go_simp
  refine hK _ _ (KS.out _ (below_dN (below_al (Below.refl _ w) _) 1)) ?_
  clear hK K
  try simp only [Act.put, List.setIfInBounds_toArray, List.set_cons_zero, List.set_cons_succ]
  refine HT.all [8] (by kernel_rfl) (by simp) ?_
  refine HT.cons 8 ⟨some 12, _, _, _, _, _⟩ rfl (by decide) (fun K hK => ?_) HT.nil
  refine step_append_xk rfl (.tmp 5) (.tmp 11) rfl rfl _ _ [] (P.take k) _ 0 k rfl rfl rfl ⟨M0.out, SR.out _ M0.out.old⟩ HLa.out HL0.out 12 rfl ?_
  intro g1 d1 w6 h1
  have M1 := Lib.hid (show Xk w w6 g1 d1 (P.take k) _ s from h1)
  clear h1
  refine hK _ _ (KS.out _ M1.out.old) ?_
  clear hK K
  try simp only [Act.put, List.setIfInBounds_toArray, List.set_cons_zero, List.set_cons_succ]
  refine HT.all [16] (by kernel_rfl) (by simp) ?_
  refine HT.cons 16 ⟨some 20, _, _, _, _, _⟩ rfl (by decide) (fun K hK => ?_) HT.nil
  refine step_append_xk rfl (.tmp 12) (.tmp 19) rfl rfl _ _ (P.take k) (P.drop m) _ k (P.length - 1) rfl HLk.out rfl ⟨M1.out, SD.out _ M1.out.old⟩ HLb.out HL1.out 20 rfl ?_
  intro g3 d3 w8 h1
  have M3 := Lib.hid h1
  clear h1
  refine hK _ _ (KS.out _ M3.out.old) ?_
  clear hK K
  try simp only [Act.put, List.setIfInBounds_toArray, List.set_cons_zero, List.set_cons_succ]
  refine HT.take 17 ⟨some 21, _, _, _, _, _⟩ (.pointer (some ⟨p, 0, none⟩)) rfl (by kernel_rfl) (by kernel_rfl) (by kernel_rfl) (by kernel_rfl) (fun _ _ _ h => h) (Or.inl ⟨by rfl, ?_⟩) (KS.out _ M3.out.old) ?_
  · intro W hSw
    (try dsimp only at hSw)
    go_simp
  try simp only [Act.put, List.setIfInBounds_toArray, List.set_cons_zero, List.set_cons_succ]
  refine HT.take 18 ⟨some 22, _, _, _, _, _⟩ (.pointer (some ⟨p, 0, none⟩)) rfl (by kernel_rfl) (by kernel_rfl) (by kernel_rfl) (by kernel_rfl) (fun _ _ _ h => h) (Or.inl ⟨by rfl, ?_⟩) (KS.out _ M3.out.old) ?_
  · intro W hSw
    (try dsimp only at hSw)
    go_simp
  try simp only [Act.put, List.setIfInBounds_toArray, List.set_cons_zero, List.set_cons_succ]
  refine HT.tail (by kernel_rfl) ?_
  obtain ⟨hp8, hf8⟩ := KS.out _ M3.out.old
  refine wpAny_ready (rs := [19]) (by kernel_rfl) (by simp) ?_
  refine AllReady.cons (o := ⟨none, _, _, _, _, _⟩) rfl (fun K hK => ?_) AllReady.nil
  go_simp
  refine hK _ _ ?_
  clear hK K
  try simp only [Act.put]
  refine wpAny_done (by kernel_rfl) ?_ _
  clear hp8 hf8
  go_wp2_with fail
  go_end0
  have M4 := M3.out
  have hst := HH.out.stored M4.old M4.row (fun y hy => HH.out.strs y (HSub.out.subset hy)) (List.Pairwise.sublist (HSub.out.map _) HH.out.srt) (fun y hy => HH.out.ok y (HSub.out.subset hy)) (Nat.le_trans HSub.out.length_le h32)
  rw [← HL1.out] at hst
  exact ⟨_, _, rfl, hst.1, hst.2⟩
end Go.Proofs.Ytfeipeninmclkaa
