/-
  What is proved: (*route.Table).List by contract: a new slice holds the table's routes, rising by Dst, those of one Dst by Bits.
  Conditions: none.
-/
import Derived.Test.YtimpellpfnmicaaRtColl
import Derived.Test.YtimpellpfnmicaaRtSorted
namespace Go.Proofs.Ytimpellpfnmicaa
open Go.RowKit Go.Maps Go.Sort Go.Shelf

theorem flat_at : ∀ (l : List Rt) (t : Nat), t < l.length * 4 → (l.flatMap encRt')[t]? = some ((encRt l.toArray[t / 4]!)[t % 4]!)
  | [], t, h => by simp at h
  | x :: l, t, h => by
    rw [List.flatMap_cons]
    by_cases ht : t < 4
    · rw [List.getElem?_append_left (by simpa [encRt'] using ht)]
      have e : t / 4 = 0 := by omega
      have e2 : t % 4 = t := by omega
      rw [e, e2]
      rcases (show t = 0 ∨ t = 1 ∨ t = 2 ∨ t = 3 by omega) with rfl | rfl | rfl | rfl <;> simp [encRt', encRt]
    · rw [List.getElem?_append_right (by simp [encRt']; omega)]
      have hl : (encRt' x).length = 4 := rfl
      rw [hl, flat_at l (t - 4) (by simp at h; omega)]
      have e : t / 4 = (t - 4) / 4 + 1 := by omega
      have e2 : t % 4 = (t - 4) % 4 := by omega
      rw [e, e2]
      have h4 : (t - 4) / 4 < l.length := by simp at h; omega
      simp [h4]
theorem holds_of_owns {w : World} {base g cap : Nat} {cs : List Rt} (h : w.ownsRow base 33 4 (.slice (some ⟨g, 0, none⟩) cs.length cap) cs.length (cs.flatMap encRt')) : HoldsK encRt 4 w g 0 cs.toArray ∧ g < w.heap.size ∧ base ≤ g ∧ cs.length ≤ cap ∧ cap ≤ maxLen := by
  rcases h.2 with ⟨h1, _⟩ | ⟨g', cap', cur, hv, hb, hg, h1, h2, h3, h4⟩
  · cases h1
  · cases hv
    refine ⟨fun t ht => ?_, (Array.getElem?_eq_some_iff.1 hg).1, hb, h1, h2⟩
    have ht' : t < cs.length * 4 := by simpa using ht
    have hf := flat_at cs t ht'
    rw [← h4, List.getElem?_take_of_lt ht', Array.getElem?_toList] at hf
    rw [get_flatK _ _ _ t (by simpa using ht'), Nat.zero_add]
    constructor
    · simp only [World.cell?, hg]
      exact hf
    · simp [World.frozen?, hg]

theorem collect_any (Bm b nn : Nat) (D : DataW Unit) (L : List Rt) (hD : Reads D L) (hs : Srt L) (hr : ∀ r ∈ L, r.Right) (hfew : L.length ≤ 64) (w : World) (hBm : Bm < w.heap.size)
    (hm : w.cell? ⟨Bm, 0, none⟩ = some (.map (some b))) (hown : w.ownsMap Try.prog 62 rtElem b nn D) :
    Calls Try.prog 28 #[.func (.func 30) #[] #[.pointer (some ⟨Bm, 0, none⟩)]] w fun e W' => ∃ v cs, e = .returned v ∧ cs.Perm L ∧ W'.ownsRow w.heap.size 33 4 v cs.length (cs.flatMap encRt') ∧ (v = .slice none 0 0 ↔ cs = []) ∧ Below w.heap.size w W' := by
  have X := Lib.hid (callsIn_wide.1 (appendSeq_in Fence.wide 3 trivial trivial rfl (Nat.le_refl _) Bm b nn D L hD hs hr hfew w hBm hm hown))
  clear hD hs hr hm hown
  go_enter Try.func28, Try.ntmps28
  go_wp2_with (go_at_call 34; refine X.out.mono ?_; rintro e w' ⟨v, cs, rfl, h1, h2, h3, h4⟩)
  go_ret
  exact ⟨v, cs, rfl, h1, h2, h3, h4⟩

set_option maxHeartbeats 1000000 in
theorem sortedFunc_any (Bm b nn : Nat) (D : DataW Unit) (L : List Rt) (hD : Reads D L) (hs : Srt L) (hr : ∀ r ∈ L, r.Right) (hfew : L.length ≤ 64) (w : World) (hBm : Bm < w.heap.size)
    (hm : w.cell? ⟨Bm, 0, none⟩ = some (.map (some b))) (hown : w.ownsMap Try.prog 62 rtElem b nn D) :
    Calls Try.prog 24 #[.func (.func 30) #[] #[.pointer (some ⟨Bm, 0, none⟩)], .func (.func 26) #[] #[]] w fun e W' => ∃ A c, e = .returned (.slice A L.length c) ∧ L.length ≤ c ∧ c ≤ 9223372036854775807 ∧ RtsIn W' A L ∧ (∀ a, A = some a → w.heap.size ≤ a.block) ∧ Below w.heap.size w W' := by
  have X := Lib.hid (collect_any Bm b nn D L hD hs hr hfew w hBm hm hown)
  have HS := Lib.hid hs
  have HN := Lib.hid hfew
  clear hD hs hr hm hown hfew
  go_enter Try.func24, Try.ntmps24
  go_upto_region 2 with (go_at_call 28; refine X.out.mono ?_; rintro e w2 ⟨v, cs, rfl, h1, h2, h3, h4⟩)
  have H1 := Lib.hid h1
  have H4 := Lib.hid h4
  by_cases hc : cs = []
  · subst hc
    obtain rfl : v = .slice none 0 0 := h3.2 rfl
    have hL : L = [] := h1.symm.eq_nil
    have HL := Lib.hid hL
    have Y := Lib.hid (fun W => AnyF.slices_SortFunc_none rtSort none 0 (.func (.func 26) #[] #[]) W)
    change Hid (∀ W, Calls Try.prog 29 _ _ _) at Y
    clear h1 h2 h3 h4 hL
    go_wp2_with (go_at_call 29; refine (Y.out _).mono ?_; rintro e w3 ⟨rfl, rfl⟩)
    go_ret
    have hL := HL.out
    subst hL
    exact ⟨none, 0, rfl, Nat.le_refl _, by omega, (fun k r hk => by simp at hk), (fun a ha => by cases ha), H4.out⟩
  · have hpos : ∃ k, cs.length = k + 1 := ⟨cs.length - 1, by have := List.length_pos_iff.2 hc; omega⟩
    obtain ⟨g, cap, rfl⟩ : ∃ g cap, v = .slice (some ⟨g, 0, none⟩) cs.length cap := by
      obtain ⟨k, hk⟩ := hpos
      rw [hk] at h2 ⊢
      exact ownsRow_succ h2
    obtain ⟨hH, hg, hbase, hcap, hmax⟩ := holds_of_owns h2
    have hlen : cs.length = L.length := h1.length_eq
    have Y := Lib.hid (sort_any g cap cs.toArray L HS.out (by simpa using h1) w2 hH hg (by have := HN.out; simp; omega))
    rw [List.size_toArray, hlen] at Y
    rw [hlen] at hcap ⊢
    have HG := Lib.hid (And.intro hbase (And.intro hcap hmax))
    clear h1 h2 h3 h4 hH hg hbase hcap hmax hpos hlen
    go_wp2_with (go_at_call 29; refine Y.out.mono ?_; rintro e w3 ⟨rfl, h5, h6⟩)
    go_ret
    obtain ⟨hb, hc1, hc2⟩ := HG.out
    exact ⟨some ⟨g, 0, none⟩, cap, rfl, hc1, by unfold maxLen at hc2; omega, h5, (fun a ha => by cases ha; exact hb), H4.out.grown h6 H4.out.size (fun k e => by cases e; exact hb)⟩

set_option maxHeartbeats 1000000 in
theorem list_any (L : List Rt) (p b : Nat) (w : World) (h : Tab w p b L) :
    Calls Try.prog 17 #[.pointer (some ⟨p, 0, none⟩)] w fun e W' => ∃ A c, e = .returned (.slice A L.length c) ∧ L.length ≤ c ∧ c ≤ 9223372036854775807 ∧ RtsIn W' A L ∧ (∀ a, A = some a → w.heap.size ≤ a.block) ∧ Below w.heap.size w W' := by
  have V := Lib.hid (fun W => callsIn_wide.1 (values_in Fence.wide 3 trivial rfl (some b) W))
  obtain ⟨D, hown, hD⟩ := h.own
  have hB := (Below.refl _ w).alloc (Nat.le_refl _) (.cells #[.map (some b)] 56)
  have X := Lib.hid (sortedFunc_any w.heap.size b _ D L hD h.srt h.right h.few (w.alloc (.cells #[.map (some b)] 56)) (by simp) (cell_new_at w #[.map (some b)] 56 0) (hown.alloc _))
  have HB := Lib.hid hB
  have hp := h.cell
  clear h hown hD hB
  go_enter Try.func17, Try.ntmps17
  go_wp2_with (first
    | (go_at_call 25; refine (V.out _).mono ?_; rintro e w1 ⟨rfl, rfl⟩)
    | (go_at_call 24; refine X.out.mono ?_; rintro e w2 ⟨A, c, rfl, h1, h2, h3, h4, h5⟩))
  go_ret
  exact ⟨A, c, rfl, h1, h2, h3, fun a ha => Nat.le_trans HB.out.size (h4 a ha), below_to HB.out h5 HB.out.size⟩
end Go.Proofs.Ytimpellpfnmicaa
