/-
  What is proved: ipv4.Right by contract.
  Conditions: the packet's offset is an int; fewer than 2^40 bytes.
-/
import Derived.Test.YtdmogppkambgaaaDoorVPkt
namespace Go.Proofs.YtdmogppkambgaaaDoor
open Go.RowKit

theorem RightTold.bad {p : Ip} {w : World} {e : Ending} {w' : World} (h : RightTold p w e w') (hb : p.bad ≠ 0) :
    ∃ b, e = .returned (.iface 106 (.pointer (some ⟨b, 0, none⟩))) ∧ Chain w' p.bad [ipWord] (.iface 106 (.pointer (some ⟨b, 0, none⟩))) ∧ Below w.heap.size w w' := by
  obtain ⟨h1, ⟨h2, _⟩ | ⟨_, b, h2, h3⟩⟩ := h
  · exact absurd h2 hb
  · exact ⟨b, h2, h3, h1⟩
theorem right_told {p : Ip} {w w' : World} {b n : Nat} (hn : p.bad = n) (h0 : n ≠ 0) (hc : Chain w' n [ipWord] (.iface 106 (.pointer (some ⟨b, 0, none⟩)))) (hb : Below w.heap.size w w') :
    RightTold p w (.returned (.iface 106 (.pointer (some ⟨b, 0, none⟩)))) w' :=
  ⟨hb, .inr ⟨by rw [hn]; exact h0, b, rfl, by rw [hn]; exact hc⟩⟩
/-- The wrapped number, in facts. -/
theorem right_wrapped (w W : World) (n : Nat) (hb : Below w.heap.size w W) (z : Int) (hz : z = (n : Int)) :
    Calls Tryd.prog 24 #[.string ipWord, .iface 30 (.int .i64 z)] W fun e w' => ∃ b, e = .returned (.iface 106 (.pointer (some ⟨b, 0, none⟩))) ∧ Chain w' n [ipWord] (.iface 106 (.pointer (some ⟨b, 0, none⟩))) ∧ Below w.heap.size w w' := by
  subst hz
  refine (wrap_any _ _ _ _).mono ?_
  rintro e w' ⟨rfl, rfl⟩
  exact ⟨_, rfl, chain_one W ipWord n, below_al hb _⟩
set_option maxHeartbeats 1000000 in
/-- The offset alone is wrong. -/
theorem right_off (p : Ip) (A : Option Addr) (c : Nat) (w : World) (h : p.off < 0 ∨ p.off % 8 ≠ 0) :
    Calls Tryd.prog 38 #[p.val (.slice A p.b.length c)] w (RightTold p w) := by
  have hbad : p.bad = 1 := by
    have : p.arg = true := by unfold Ip.arg; rcases h with h | h <;> simp [h]
    unfold Ip.bad
    rw [if_pos this]
  have X := Lib.hid (right_wrapped w (w.alloc (p.obj (.slice A p.b.length c))) 1 (below_al (Below.refl _ _) _) 1 rfl)
  have HB := Lib.hid hbad
  unfold Ip.obj at X
  unfold ipWord at X
  rw [Ip.val_lit]
  clear hbad
  by_cases h0 : p.off < 0
  · clear h
    go_enter Tryd.func38, Tryd.ntmps38
    go_wp2_with fail
    refine X.out.mono ?_
    rintro e w' ⟨b, rfl, hc, hb⟩
    have H := Lib.hid (right_told HB.out (by decide) hc hb)
    clear hc hb
    go_wp2_with fail
    go_ret
    exact H.out
  · have h8 : (p.off % 8 == 0) = false := by
      simp only [beq_eq_false_iff_ne, ne_eq]
      omega
    have h1 : 0 ≤ p.off := by omega
    have h9 : ¬ p.off % 8 = 0 := by omega
    have h10 : ¬ p.off.tmod 8 = 0 := by rw [tmod8 _ h1]; exact h9
    have h11 : ¬ p.off < 0 := h0
    clear h h0
    go_enter Tryd.func38, Tryd.ntmps38
    go_wp2_with fail
    refine X.out.mono ?_
    rintro e w' ⟨b, rfl, hc, hb⟩
    have H := Lib.hid (right_told HB.out (by decide) hc hb)
    clear hc hb
    go_wp2_with fail
    go_ret
    exact H.out
set_option maxHeartbeats 1000000 in
/-- Parts follow that can't. -/
theorem right_mf (p : Ip) (A : Option Addr) (c : Nat) (w : World) (h1 : 0 ≤ p.off) (h2 : p.off % 8 = 0) (hm : p.mf = true) (hf : (decide (0 < p.b.length) && decide (p.b.length % 8 = 0)) = false) :
    Calls Tryd.prog 38 #[p.val (.slice A p.b.length c)] w (RightTold p w) := by
  have hbad : p.bad = 1 := by
    have : p.arg = true := by unfold Ip.arg; simp [hm, hf]
    unfold Ip.bad
    rw [if_pos this]
  have X := Lib.hid (right_wrapped w (w.alloc (p.obj (.slice A p.b.length c))) 1 (below_al (Below.refl _ _) _) 1 rfl)
  have Y := Lib.hid (follow_any A p.b.length c (w.alloc (p.obj (.slice A p.b.length c))))
  have HB := Lib.hid hbad
  unfold Ip.obj at X Y
  unfold ipWord at X
  rw [Ip.val_lit]
  rw [hf] at Y
  rw [hm] at X Y ⊢
  have h11 : ¬ p.off < 0 := by omega
  have h8 : p.off.tmod 8 = 0 := by rw [tmod8 _ h1]; exact h2
  clear hbad hf
  go_enter Tryd.func38, Tryd.ntmps38
  go_wp2_with fail
  refine Y.out.mono ?_
  rintro e w' ⟨rfl, rfl⟩
  go_wp2_with fail
  refine X.out.mono ?_
  rintro e w' ⟨b, rfl, hc, hb⟩
  have H := Lib.hid (right_told HB.out (by decide) hc hb)
  clear hc hb
  go_wp2_with fail
  go_ret
  exact H.out
theorem bad_rest (p : Ip) (h1 : 0 ≤ p.off) (h2 : p.off % 8 = 0) (hf : p.mf = false ∨ (decide (0 < p.b.length) && decide (p.b.length % 8 = 0)) = true) : p.bad = if 65515 - (p.b.length : Int) < p.off then 7 else 0 := by
  have : p.arg = false := by
    unfold Ip.arg
    have h3 : ¬ p.off < 0 := by omega
    rcases hf with hf | hf <;> simp [h2, h3, hf]
  unfold Ip.bad
  rw [this]
  rfl
set_option maxHeartbeats 1000000 in
/-- The rest of the tests: no more parts. -/
theorem right_last (p : Ip) (A : Option Addr) (c : Nat) (w : World) (h1 : 0 ≤ p.off) (h2 : p.off % 8 = 0) (hL : p.b.length ≤ 1099511627776) (hm : p.mf = false) :
    Calls Tryd.prog 38 #[p.val (.slice A p.b.length c)] w (RightTold p w) := by
  have hbad := bad_rest p h1 h2 (.inl hm)
  have X := Lib.hid (right_wrapped w (w.alloc (p.obj (.slice A p.b.length c))) 7 (below_al (Below.refl _ _) _) 7 rfl)
  have HR : Hid (Below w.heap.size w (w.alloc (p.obj (.slice A p.b.length c)))) := Lib.hid (below_al (Below.refl _ _) _)
  unfold Ip.obj at X HR
  unfold ipWord at X
  rw [Ip.val_lit]
  rw [hm] at X HR ⊢
  have h11 : ¬ p.off < 0 := by omega
  have h8 : p.off.tmod 8 = 0 := by rw [tmod8 _ h1]; exact h2
  by_cases hg : 65515 - (p.b.length : Int) < p.off
  · rw [if_pos hg] at hbad
    have HB := Lib.hid hbad
    clear hbad
    go_enter Tryd.func38, Tryd.ntmps38
    go_wp2_with fail
    refine X.out.mono ?_
    rintro e w' ⟨b, rfl, hc, hb⟩
    have H := Lib.hid (right_told HB.out (by decide) hc hb)
    clear hc hb
    go_wp2_with fail
    go_ret
    exact H.out
  · rw [if_neg hg] at hbad
    have HB := Lib.hid hbad
    clear hbad
    go_enter Tryd.func38, Tryd.ntmps38
    go_wp2_with fail
    go_ret
    exact ⟨HR.out, .inl ⟨HB.out, rfl⟩⟩
set_option maxHeartbeats 1000000 in
/-- The rest of the tests: more parts, that can follow. -/
theorem right_more (p : Ip) (A : Option Addr) (c : Nat) (w : World) (h1 : 0 ≤ p.off) (h2 : p.off % 8 = 0) (hL : p.b.length ≤ 1099511627776) (hm : p.mf = true) (hf : (decide (0 < p.b.length) && decide (p.b.length % 8 = 0)) = true) :
    Calls Tryd.prog 38 #[p.val (.slice A p.b.length c)] w (RightTold p w) := by
  have hbad := bad_rest p h1 h2 (.inr hf)
  have X := Lib.hid (right_wrapped w (w.alloc (p.obj (.slice A p.b.length c))) 7 (below_al (Below.refl _ _) _) 7 rfl)
  have HR : Hid (Below w.heap.size w (w.alloc (p.obj (.slice A p.b.length c)))) := Lib.hid (below_al (Below.refl _ _) _)
  have Y := Lib.hid (follow_any A p.b.length c (w.alloc (p.obj (.slice A p.b.length c))))
  unfold Ip.obj at X HR Y
  unfold ipWord at X
  rw [Ip.val_lit]
  rw [hf] at Y
  rw [hm] at X HR Y ⊢
  have h11 : ¬ p.off < 0 := by omega
  have h8 : p.off.tmod 8 = 0 := by rw [tmod8 _ h1]; exact h2
  clear hf
  by_cases hg : 65515 - (p.b.length : Int) < p.off
  · rw [if_pos hg] at hbad
    have HB := Lib.hid hbad
    clear hbad
    go_enter Tryd.func38, Tryd.ntmps38
    go_wp2_with fail
    refine Y.out.mono ?_
    rintro e w' ⟨rfl, rfl⟩
    go_wp2_with fail
    refine X.out.mono ?_
    rintro e w' ⟨b, rfl, hc, hb⟩
    have H := Lib.hid (right_told HB.out (by decide) hc hb)
    clear hc hb
    go_wp2_with fail
    go_ret
    exact H.out
  · rw [if_neg hg] at hbad
    have HB := Lib.hid hbad
    clear hbad
    go_enter Tryd.func38, Tryd.ntmps38
    go_wp2_with fail
    refine Y.out.mono ?_
    rintro e w' ⟨rfl, rfl⟩
    go_wp2_with fail
    go_ret
    exact ⟨HR.out, .inl ⟨HB.out, rfl⟩⟩
theorem right_any (p : Ip) (A : Option Addr) (c : Nat) (w : World) (hL : p.b.length ≤ 1099511627776) :
    Calls Tryd.prog 38 #[p.val (.slice A p.b.length c)] w (RightTold p w) := by
  by_cases h1 : p.off < 0 ∨ p.off % 8 ≠ 0
  · exact right_off p A c w h1
  · have h2 : 0 ≤ p.off := by omega
    have h3 : p.off % 8 = 0 := by omega
    cases hm : p.mf with
    | false => exact right_last p A c w h2 h3 hL hm
    | true =>
      cases hf : (decide (0 < p.b.length) && decide (p.b.length % 8 = 0)) with
      | false => exact right_mf p A c w h2 h3 hm hf
      | true => exact right_more p A c w h2 h3 hL hm hf
end Go.Proofs.YtdmogppkambgaaaDoor
