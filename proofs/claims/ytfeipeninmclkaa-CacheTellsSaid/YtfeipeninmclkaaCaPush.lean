/-
  What is proved: a packet put behind those that wait: what memory holds behind it.
  Conditions: fewer than five packets.
-/
import Derived.Test.YtfeipeninmclkaaCaClone
namespace Go.Proofs.Ytfeipeninmclkaa
open Go.RowKit

theorem pkInfo : (Try.prog.info? 35).map (fun i => (i.zero, i.size, i.bytes)) = some (some (.slice none 0 0), 1, 24) := by kernel_rfl
theorem push_run {w : World} {v pv : Value} {n X : Nat} {vs : List Value} (ho : w.ownsRow 0 35 1 v n vs) (hX : w.cell? ⟨X, 0, none⟩ = some pv) (hpv : pv.oneCell' = true) (hn : n ≤ 4) (ty : TypeId) :
    ∃ v' w1, (Builtin.append_ #[42, 42] ty #[v, .slice (some ⟨X, 0, none⟩) 1 1]).run Try.prog w = .ok v' w1 ∧ w1.ownsRow 0 35 1 v' (n + 1) (vs ++ [pv]) ∧ w.grownBy w1 v.ownBlock ∧ (v'.ownBlock = v.ownBlock ∨ v'.ownBlock = some w.heap.size) := by
  obtain ⟨i0, hi, hz0, hz1, hz2⟩ := info_parts pkInfo
  obtain ⟨v', w1, hrun, ho1, hg, _, hat⟩ := run_append_own_at (P := Try.prog) w 0 42 ty 35 i0 (.slice none 0 0) 1 24 Try.underlying42 hi hz0 hz1 hz2 rfl (by omega) v n vs ho ⟨X, 0, none⟩ 1 1 [pv] (by simp)
    (fun j u hu => by
      cases j with
      | zero =>
        obtain rfl : pv = u := by simpa using hu
        rw [Addr.add_lit]
        exact hX
      | succ j => simp at hu) (fun u hu => by obtain rfl : u = pv := by simpa using hu
                                              exact hpv) (by simp only [maxLen]; omega) (by omega) (by omega)
  exact ⟨v', w1, hrun, ho1, hg, hat⟩
theorem owns_slice {w : World} {B : Nat} {e : TypeId} {s : Nat} {v : Value} {k : Nat} {xs : List Value} (h : w.ownsRow B e s v k xs) : ∃ A n c, v = .slice A n c := by
  rcases h.2 with ⟨rfl, _⟩ | ⟨_, _, _, rfl, _⟩
  · exact ⟨_, _, _, rfl⟩
  · exact ⟨_, _, _, rfl⟩
theorem owns_one {w : World} {B : Nat} {e : TypeId} {s : Nat} {v : Value} {k : Nat} {xs : List Value} (h : w.ownsRow B e s v k xs) : v.oneCell' = true := by
  rcases h.2 with ⟨rfl, _⟩ | ⟨_, _, _, rfl, _⟩ <;> rfl
theorem owns_zero {w : World} {B : Nat} {e : TypeId} {s : Nat} {v : Value} {k : Nat} {xs : List Value} (h : w.ownsRow B e s v k xs) : w.ownsRow 0 e s v k xs := by
  refine ⟨h.1, ?_⟩
  rcases h.2 with h1 | ⟨g, cap, cur, hv, _, r⟩
  · exact .inl h1
  · exact .inr ⟨g, cap, cur, hv, Nat.zero_le _, r⟩
/-- The blocks that are new. -/
def plus (F : Nat → Prop) (w w' : World) : Nat → Prop := fun k => F k ∨ (w.heap.size ≤ k ∧ k < w'.heap.size)

theorem Tab.push {w w3 w4 w5 w6 : World} {p b : Nat} {F : Nat → Prop} {rep : Rep} {L : List En} (T : Tab w p b F rep none L) {e : En} (he : e ∈ L) (hn : e.pk ≠ []) {vs : List Value} (hv : RowOk w F (rep e.ip) e.pk vs) {G : Nat} (hG : G < w.heap.size) (hGF : ¬ F G)
    (hB3 : Below w.heap.size w w3) {pv : Value} {x : List UInt8} (hp : w3.ownsRow w.heap.size 5 1 pv x.length (x.map B8)) (hB4 : Below w3.heap.size w3 w4)
    (hg5 : w4.grownBy w5 (some (rep e.ip).1)) {v' : Value} (ho5 : w5.ownsRow 0 35 1 v' (e.pk.length + 1) (vs ++ [pv])) (hat : v'.ownBlock = some (rep e.ip).1 ∨ v'.ownBlock = some w4.heap.size)
    (h6 : ∀ k, k ≠ G → w6.heap[k]? = w5.heap[k]?) (h6s : w6.heap.size = w5.heap.size) :
    ∃ q, v' = .slice (some ⟨q.1, 0, none⟩) (e.pk.length + 1) q.2 ∧ Tab w6 p b (plus F w w6) rep (some e.ip) L ∧ (∃ us, RowOk w6 (plus F w w6) q (e.pk ++ [x]) us) ∧ (∀ f ∈ L, f.ip ≠ e.ip → f.pk ≠ [] → (rep f.ip).1 ≠ q.1) := by
  have hs3 := hB3.size
  have hs4 := hB4.size
  have hs5 := hg5.size
  have T4 := (T.below hB3).below (hB4.mono (Nat.le_refl _))
  have T5 := T4.lose he hn hg5
  have hF6 : ∀ k, F k → w6.heap[k]? = w5.heap[k]? := fun k hk => h6 k (fun e => hGF (e ▸ hk))
  have T6 : Tab w6 p b F rep (some e.ip) L := T5.at hF6 (by omega)
  have hFl : ∀ k, F k → k < w.heap.size := T.flt
  have hpl : ∀ k, plus F w w6 k → k < w6.heap.size := fun k hk => by
    rcases hk with h | ⟨_, h⟩
    · have := hFl k h; omega
    · exact h
  obtain ⟨cur, hcur, _⟩ := hv.block
  have hgF := hv.own
  have gw := hFl _ hgF
  rcases ho5.2 with ⟨_, h0⟩ | ⟨g', cap, cu, hv', _, hg', k1, k2, k3, k4⟩
  · omega
  · subst hv'
    have hq : g' = (rep e.ip).1 ∨ g' = w4.heap.size := by
      rcases hat with h | h
      · exact .inl (by simpa [Value.ownBlock] using h)
      · exact .inr (by simpa [Value.ownBlock] using h)
    have hgl : g' < w5.heap.size := (Array.getElem?_eq_some_iff.1 hg').1
    have hgG : g' ≠ G := by
      rcases hq with h | h
      · rw [h]; exact fun e => hGF (e ▸ hgF)
      · omega
    refine ⟨(g', cap), rfl, T6.wide (fun k hk => .inl hk) hpl, ⟨vs ++ [pv], ?_, ?_, fun i v y e1 e2 => ?_⟩, fun f hf hne hfn heq => ?_⟩
    · rw [List.length_append]
      exact owns_at ho5 (fun g hg => by cases hg; exact h6 _ hgG)
    · rcases hq with h | h
      · exact .inl (by show F g'; rw [h]; exact hgF)
      · exact .inr ⟨by show w.heap.size ≤ g'; omega, by show g' < _; omega⟩
    · have hvl : vs.length = e.pk.length := by have := hv.row.1; omega
      by_cases hi : i < e.pk.length
      · rw [List.getElem?_append_left (by omega)] at e1 e2
        have hpk := hv.pks i v y e1 e2
        refine ⟨owns_at hpk.row (fun gb hgb => ?_), fun gb hgb => .inl (hpk.own gb hgb)⟩
        have hFb := hpk.own gb hgb
        have hlt := hFl gb hFb
        have hne : gb ≠ (rep e.ip).1 := fun e' => by
          rcases hpk.row.2 with ⟨hv1, _⟩ | ⟨g2, cap2, cu2, hv1, _, hg2, _⟩
          · rw [hv1] at hgb
            cases hgb
          · rw [hv1] at hgb
            have e3 : g2 = gb := by simpa [Value.ownBlock] using hgb
            rw [e3, e', hcur] at hg2
            exact U8.ne.symm (Obj.cells.inj (Option.some.inj hg2)).2.1
        rw [h6 gb (fun e' => hGF (e' ▸ hFb)), hg5.block gb (by omega) (fun e' => hne (Option.some.inj e')), hB4.block gb (by omega), hB3.block gb hlt]
      · have hi2 : i = e.pk.length := by
          have := (List.getElem?_eq_some_iff.1 e2).1
          simp at this
          omega
        subst hi2
        rw [List.getElem?_append_right (by omega)] at e1 e2
        simp [hvl] at e1 e2
        subst e1 e2
        refine ⟨owns_at (owns_zero hp) (fun gb hgb => ?_), fun gb hgb => ?_⟩
        · have hl := hp.lt gb hgb
          rw [h6 gb (by omega), hg5.block gb (by omega) (fun e' => by have := Option.some.inj e'; omega), hB4.block gb hl.2]
        · have hl := hp.lt gb hgb
          exact .inr ⟨hl.1, by omega⟩
    · have hff := T.home f hf hfn
      have hfl := hFl _ hff
      rcases hq with h | h
      · rw [show (((g', cap) : Nat × Nat).1) = g' from rfl, h] at heq
        exact hne (T.apart f hf e he hfn hn heq)
      · rw [show (((g', cap) : Nat × Nat).1) = g' from rfl] at heq
        omega
end Go.Proofs.Ytfeipeninmclkaa
