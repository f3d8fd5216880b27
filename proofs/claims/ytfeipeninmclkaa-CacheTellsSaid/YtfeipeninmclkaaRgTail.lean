/-
  What is proved: a law on regions that draw their order: the loads of a cell may be taken first although the region's last operation writes that very cell, since that one waits for all the others.
  Conditions: none of its own. (Free of any package's functions.)
-/
import Derived.Test.YtfeipeninmclkaaProg
import Derived.OrdersHeld
import Derived.StillTail
import Derived.RegionTactic
namespace Go.Proofs.Ytfeipeninmclkaa

section
variable {P : Program} {md : Region.Mode} {ops : Array Oper} {Q : Exit → Act → World → Prop} {S : World → Prop} {n g : Nat}

/-- Whatever order the first n operations come up in, S holds behind each of them; behind them all the rest is shown. -/
def heldT (P : Program) (md : Region.Mode) (ops : Array Oper) (Q : Exit → Act → World → Prop) (S : World → Prop) (n g : Nat) : Nat → Array Bool → Act → World → Prop
  | 0, listed, a, w => (∀ j ∈ Region.ready md ops listed, n ≤ j) ∧ wpAny P md ops Q g listed a w
  | f + 1, listed, a, w => Region.ready md ops listed ≠ [] ∧ ∀ i ∈ Region.ready md ops listed, i < n ∧ wpOp P ops Q i (fun b u => S u ∧ heldT P md ops Q S n g f (listed.setIfInBounds i true) b u) a w

theorem heldT.any : ∀ (f : Nat) (listed : Array Bool) (a : Act) (w : World), heldT P md ops Q S n g f listed a w → wpAny P md ops Q (f + g) listed a w
  | 0, _, _, _, h => by
    rw [Nat.zero_add]
    exact h.2
  | f + 1, _, _, _, h => by
    rw [Nat.succ_add]
    exact ⟨fun e => absurd e h.1, fun i hi => wpOp_mono (fun b u k => heldT.any f _ b u k.2) (h.2 i hi).2⟩

/-- What may be taken first, before whatever else of the first n. -/
structure Early (P : Program) (md : Region.Mode) (ops : Array Oper) (S : World → Prop) (i : Nat) (o : Oper) (v : Value) (listed : Array Bool) (a : Act) : Prop where
  ready : i ∈ Region.ready md ops listed
  apart : ∀ j p, ops[j]? = some p → j ≠ i → listed.getD j true = false → (∀ e ∈ p.after, Region.binds md e = true → e.on ≠ i) → o.apart ops p = true
  yields : YieldsIf P ops S o v a

theorem heldT.early {i : Nat} {o : Oper} {v : Value} (ho : ops[i]? = some o) (hsel : ∀ (j : Nat) (p : Oper) cs b, ops[j]? = some p → p.op ≠ .select cs b)
    (hQ : ∀ c a w, Q (.panic c) (a.put o.dst v) w → Q (.panic c) a w) (hs : Region.sinkB md ops n = true) (hc : Region.chainB md ops n = true) (hn : n < ops.size) (hin : i < n) :
    ∀ (f : Nat) (listed : Array Bool) (a : Act) (w : World), HeadInv md ops n listed → Early P md ops S i o v listed a → S w →
      heldT P md ops Q S n g f (listed.setIfInBounds i true) (a.put o.dst v) w → heldT P md ops Q S n g (f + 1) listed a w
  | f, listed, a, w, inv, he, hS, H => by
    have hun := (mem_ready.1 he.ready).1
    refine ⟨List.ne_nil_of_mem he.ready, fun j hj => ?_⟩
    have hjn : j < n := Nat.lt_of_not_le fun h => tail_waits hs hc hn inv _ i rfl hin hun j h hj
    refine ⟨hjn, ?_⟩
    by_cases e : j = i
    · rw [e]
      exact he.yields.wpOp ho hS ⟨hS, H⟩
    · have hj2 := ready_mono hj e
      match f, H with
      | 0, H => exact absurd (H.1 j hj2) (Nat.not_le.2 hjn)
      | f + 1, H =>
        obtain ⟨hju, p, hp, hall⟩ := mem_ready.1 hj
        have hno : ∀ x ∈ p.after, Region.binds md x = true → x.on ≠ i := fun x hx hb hxi => by
          have k := hall x hx hb
          rw [hxi, getD_both hun] at k
          cases k
        refine wpOp_mono (fun b u k => ⟨k.2.1, heldT.early ho hsel hQ hs hc hn hin f (listed.setIfInBounds j true) b u (inv.set hj hjn) ⟨ready_mono he.ready (Ne.symm e), fun q r hr hqi hqu => he.apart q r hr hqi ?_, k.1⟩ k.2.1 ?_⟩)
          (wpOp_putIf hp (he.apart j p hp e hju hno) (fun cs b => hsel i o cs b ho) (fun cs b => hsel j p cs b hp) hQ he.yields (H.2 j hj2).2)
        · by_cases hjq : j = q
          · rw [← hjq]
            exact hju
          · rwa [getD_set_ne true hjq] at hqu
        · rw [Array.setIfInBounds_comm _ _ e]
          exact k.2.2

/-- The state of such a walk: what has come up was waited for by nothing that has not. -/
def HT (P : Program) (md : Region.Mode) (ops : Array Oper) (Q : Exit → Act → World → Prop) (S : World → Prop) (n g f : Nat) (listed : Array Bool) (a : Act) (w : World) : Prop :=
  HeadInv md ops n listed → heldT P md ops Q S n g f listed a w

theorem HT.take {f : Nat} {listed : Array Bool} {a : Act} {w : World} (i : Nat) (o : Oper) (v : Value) (ho : ops[i]? = some o) (hsel : Region.noSelect ops = true) (hfree : Region.free md ops listed i = true) (hr : (Region.ready md ops listed).contains i = true)
    (hT : (Region.sinkB md ops n && Region.chainB md ops n && decide (n < ops.size) && decide (i < n)) = true)
    (hQ : ∀ c a w, Q (.panic c) (a.put o.dst v) w → Q (.panic c) a w) (hy : YieldsIf P ops S o v a) (hS : S w) (h : HT P md ops Q S n g f (listed.setIfInBounds i true) (a.put o.dst v) w) : HT P md ops Q S n g (f + 1) listed a w := fun inv => by
  simp only [Bool.and_eq_true, decide_eq_true_eq] at hT
  obtain ⟨⟨⟨h1, h2⟩, h3⟩, h4⟩ := hT
  have hi : i ∈ Region.ready md ops listed := by simpa using hr
  exact heldT.early ho (Region.noSelect_spec hsel) hQ h1 h2 h3 h4 f listed a w inv ⟨hi, Region.free_spec ho hfree, hy⟩ hS (h (inv.set hi h4))
/-- Whichever comes up. -/
theorem HT.all {f : Nat} {listed : Array Bool} {a : Act} {w : World} (rs : List Nat) (hr : Region.ready md ops listed = rs) (hne : rs ≠ [])
    (h : ∀ i ∈ rs, i < n ∧ wpOp P ops Q i (fun b u => S u ∧ HT P md ops Q S n g f (listed.setIfInBounds i true) b u) a w) : HT P md ops Q S n g (f + 1) listed a w := fun inv =>
  ⟨by rw [hr]; exact hne, fun i hi => ⟨(h i (hr ▸ hi)).1, wpOp_mono (fun _ _ k => ⟨k.1, k.2 (inv.set hi (h i (hr ▸ hi)).1)⟩) (h i (hr ▸ hi)).2⟩⟩
theorem HT.nil {f : Nat} {listed : Array Bool} {a : Act} {w : World} : ∀ i ∈ ([] : List Nat), i < n ∧ wpOp P ops Q i (fun b u => S u ∧ HT P md ops Q S n g f (listed.setIfInBounds i true) b u) a w := fun _ h => by cases h
theorem HT.cons {f : Nat} {listed : Array Bool} {a : Act} {w : World} {rs : List Nat} (i : Nat) (o : Oper) (ho : ops[i]? = some o) (hin : i < n)
    (h : ∀ K : Act → World → Prop, (∀ b u, S u → HT P md ops Q S n g f (listed.setIfInBounds i true) b u → K b u) → if Region.wanted o (yielded ops a.tmps) = true then Oper.wp P o a w K Q else K (a.put o.dst undef) w)
    (hs : ∀ j ∈ rs, j < n ∧ wpOp P ops Q j (fun b u => S u ∧ HT P md ops Q S n g f (listed.setIfInBounds j true) b u) a w) : ∀ j ∈ i :: rs, j < n ∧ wpOp P ops Q j (fun b u => S u ∧ HT P md ops Q S n g f (listed.setIfInBounds j true) b u) a w := fun j hj => by
  rcases List.mem_cons.1 hj with e | hj
  · rw [e]
    exact ⟨hin, wpOp_step ho fun K hK => h K fun b u h1 h2 => hK b u ⟨h1, h2⟩⟩
  · exact hs j hj
/-- The first n have come up. -/
theorem HT.tail {listed : Array Bool} {a : Act} {w : World} (hr : ((Region.ready md ops listed).all fun j => decide (n ≤ j)) = true) (h : wpAny P md ops Q g listed a w) : HT P md ops Q S n g 0 listed a w := fun _ =>
  ⟨fun j hj => by simpa using List.all_eq_true.1 hr j hj, h⟩
theorem HT.start {id : Nat} {a : Act} {w : World} {l : List Oper} (n g : Nat) (hm : P.follows .mixedOrders = true) (hg : n + g = l.length)
    (h : HT P .any l.toArray Q S n g n (Array.replicate l.toArray.size false) a w.drew) : (Code.region id l.toArray true).wp P Q a w := by
  have hn : n + g = l.toArray.size := by simpa using hg
  refine wp_region_any hm ?_
  have k := heldT.any n _ a _ (h ⟨by simp, fun j oj _ hl => (by rw [getD_replicate_false] at hl; cases hl), fun t _ ht => getD_in (by simpa using ht) (getD_replicate_false _ _)⟩)
  rw [hn] at k
  exact k
end
end Go.Proofs.Ytfeipeninmclkaa
