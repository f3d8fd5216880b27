/-
  What is proved: the project's cache and the document's side by side: what one does leaves the other alone; packets told compared (texts), by contract.
  Conditions: none of its own.
-/
import Derived.Test.YtfeipeninmclkaaRcTick
import Derived.Test.YtfeipeninmclkaaRcWait
import Derived.Test.YtfeipeninmclkaaCaTwo
namespace Go.Proofs.Ytfeipeninmclkaa
open Go.RowKit

structure Cy (w : World) (K : Nat → Prop) (W : World) (pa : Nat) (Fa : Nat → Prop) (La : List En) (pb : Nat) (Fb : Nat → Prop) (v : Value) (P : List Xe) : Prop where
  a : Ca W pa Fa La
  b : Rc W pb Fb v P
  dis : ∀ k, Fa k → ¬ Fb k
  fa : ∀ k, Fa k → w.heap.size ≤ k ∧ ¬ K k
  fb : ∀ k, Fb k → w.heap.size ≤ k ∧ ¬ K k
  lt : ∀ k, K k → k < W.heap.size
  base : Below w.heap.size w W
section
variable {w W w' : World} {K : Nat → Prop} {pa pb : Nat} {Fa Fb Fa' Fb' : Nat → Prop} {La La' : List En} {v v' : Value} {P P' : List Xe}
theorem Cy.didA (h : Cy w K W pa Fa La pb Fb v P) (hC : Ca w' pa Fa' La') (hD : Did W w' Fa Fa') : Cy w K w' pa Fa' La' pb Fb v P where
  a := hC
  b := h.b.at (fun k hk => hD.block k (h.b.flt k hk) (fun ha => h.dis k ha hk)) hD.size
  dis k hk hb := by
    rcases hD.new k hk with h1 | h1
    · exact h.dis k h1 hb
    · have := h.b.flt k hb; omega
  fa k hk := by
    rcases hD.new k hk with h1 | h1
    · exact h.fa k h1
    · exact ⟨Nat.le_trans h.base.size h1, fun hK => absurd (h.lt k hK) (by omega)⟩
  fb := h.fb
  lt k hk := Nat.lt_of_lt_of_le (h.lt k hk) hD.size
  base := hD.below h.base h.base.size (fun k hk => (h.fa k hk).1)
theorem Cy.keepA (h : Cy w K W pa Fa La pb Fb v P) (hD : Did W w' Fa Fa') : ∀ k, K k → w'.heap[k]? = W.heap[k]? := fun k hk => hD.block k (h.lt k hk) (fun ha => (h.fa k ha).2 hk)
theorem Cy.didB (h : Cy w K W pa Fa La pb Fb v P) (hC : Rc w' pb Fb' v' P') (hD : Did W w' Fb Fb') : Cy w K w' pa Fa La pb Fb' v' P' where
  a := h.a.at (fun k hk => hD.block k (h.a.flt k hk) (fun hb => h.dis k hk hb)) hD.size
  b := hC
  dis k hk hb := by
    rcases hD.new k hb with h1 | h1
    · exact h.dis k hk h1
    · have := h.a.flt k hk; omega
  fa := h.fa
  fb k hk := by
    rcases hD.new k hk with h1 | h1
    · exact h.fb k h1
    · exact ⟨Nat.le_trans h.base.size h1, fun hK => absurd (h.lt k hK) (by omega)⟩
  lt k hk := Nat.lt_of_lt_of_le (h.lt k hk) hD.size
  base := hD.below h.base h.base.size (fun k hk => (h.fb k hk).1)
theorem Cy.keepB (h : Cy w K W pa Fa La pb Fb v P) (hD : Did W w' Fb Fb') : ∀ k, K k → w'.heap[k]? = W.heap[k]? := fun k hk => hD.block k (h.lt k hk) (fun ha => (h.fb k ha).2 hk)
theorem Cy.new (h : Cy w K W pa Fa La pb Fb v P) (hb : Below W.heap.size W w') : Cy w (fun k => K k ∨ W.heap.size ≤ k ∧ k < w'.heap.size) w' pa Fa La pb Fb v P where
  a := h.a.below hb
  b := h.b.below hb
  dis := h.dis
  fa k hk := ⟨(h.fa k hk).1, by
    rintro (h1 | h1)
    · exact (h.fa k hk).2 h1
    · have := h.a.flt k hk; omega⟩
  fb k hk := ⟨(h.fb k hk).1, by
    rintro (h1 | h1)
    · exact (h.fb k hk).2 h1
    · have := h.b.flt k hk; omega⟩
  lt k hk := by
    rcases hk with h1 | h1
    · exact Nat.lt_of_lt_of_le (h.lt k h1) hb.size
    · exact h1.2
  base := below_to h.base hb h.base.size
theorem Cy.drop {K' : Nat → Prop} (h : Cy w K W pa Fa La pb Fb v P) (hs : ∀ k, K' k → K k) : Cy w K' W pa Fa La pb Fb v P :=
  ⟨h.a, h.b, h.dis, fun k hk => ⟨(h.fa k hk).1, fun k' => (h.fa k hk).2 (hs k k')⟩, fun k hk => ⟨(h.fb k hk).1, fun k' => (h.fb k hk).2 (hs k k')⟩, fun k hk => h.lt k (hs k hk), h.base⟩
theorem Cy.box (h : Cy w (fun _ => False) W pa Fa La pb Fb v P) {g : Nat} (hb : Below W.heap.size W w') (h1 : W.heap.size ≤ g) (h2 : g < w'.heap.size) : Cy w (fun k => k = g) w' pa Fa La pb Fb v P :=
  (h.new hb).drop fun k hk => .inr (by omega)
theorem Cy.to (h : Cy w K W pa Fa La pb Fb v P) (hb : Below W.heap.size W w') : Cy w K w' pa Fa La pb Fb v P := (h.new hb).drop fun _ hk => .inl hk
end
theorem cy_start {w w1 w2 : World} {pa : Nat} (hB1 : Below w.heap.size w w1) (ha : Ca w2 pa (fun k => w1.heap.size ≤ k ∧ k < w1.heap.size + 2) []) (hBa : Below w1.heap.size w1 w2) :
    Cy w (fun _ => False) (w2.alloc (.cells #[.slice none 0 0] 30)) pa (fun k => w1.heap.size ≤ k ∧ k < w1.heap.size + 2) [] w2.heap.size (fun k => k = w2.heap.size) (.slice none 0 0) [] where
  a := ha.below ((Below.refl _ w2).alloc (Nat.le_refl _) _)
  b := ⟨heap_alloc_new w2 _, ⟨none, 0, rfl, Nat.le_refl _, by omega, (fun k x hk => by simp at hk), .inl ⟨rfl, rfl⟩, fun a ha => by cases ha⟩, (fun x hx => absurd hx List.not_mem_nil), List.Pairwise.nil, (fun x hx => absurd hx List.not_mem_nil), by simp, rfl, fun k hk => by subst hk; simp⟩
  dis k hk hb := by
    have := ha.flt k hk
    omega
  fa k hk := ⟨by have := hB1.size; omega, fun h => h⟩
  fb k hk := ⟨by have := hB1.size; have := hBa.size; omega, fun h => h⟩
  lt k hk := hk.elim
  base := below_to (below_to hB1 hBa hB1.size) ((Below.refl _ w2).alloc (Nat.le_refl _) _) (Nat.le_trans hB1.size hBa.size)

set_option maxRecDepth 100000 in
set_option maxHeartbeats 4000000 in
theorem texts_any (pk : List (List UInt8)) (hl : pk.length ≤ 4) (u v : Value) (w : World) (hs : ∃ A c, u = .slice A pk.length c) (hu : TextsAt w u pk) (hv : RdT w v pk) : Calls Try.prog 15 #[u, v] w fun e w' => e = .returned (.bool true) ∧ Below w.heap.size w w' := by
  obtain ⟨A, c, rfl⟩ := hs
  obtain ⟨B, d, rfl, hB⟩ := hv
  have HA := Lib.hid hu
  have HB := Lib.hid hB
  clear hu hB
  go_enter Try.func15, Try.ntmps15
  go_wp2_with fail
  go_loopw [5] (fun s5 wr => ∃ k : Nat, s5 = .int .i64 (k : Int) ∧ k ≤ pk.length ∧ Below w.heap.size w wr) (fun s5 _ => pk.length - (intOf s5).toNat)
  case atStart => exact ⟨0, rfl, Nat.zero_le _, Below.refl _ _⟩
  case round =>
    obtain ⟨k, rfl, hk, hbr⟩ := hrel
    have Hbr := Lib.hid hbr
    clear hbr
    by_cases hlt : k < pk.length
    · have q1 : decide ((k : Int) < (pk.length : Int)) = true := decide_eq_true (by omega)
      obtain ⟨x, hx⟩ : ∃ x, pk[k]? = some x := ⟨pk[k], List.getElem?_eq_getElem hlt⟩
      obtain ⟨g1, c1, e1, B1, d1, h1, hr1⟩ := HA.out k x hx
      obtain ⟨rfl, _, rfl⟩ := slice_inj e1
      obtain ⟨g2, o2, rfl, h2⟩ := HB.out k (.string (txt x)) (by unfold Tx; rw [List.getElem?_map, hx]; rfl)
      have h1 := (Hbr.out.cell (World.block_lt_of_cell? w _ h1)).trans h1
      have h2 := (Hbr.out.cell (World.block_lt_of_cell? w _ h2)).trans h2
      have hr := hr1.below Hbr.out
      have hcv := fun n => convert_rd (hr.below (below_dN (Below.refl wr.heap.size wr) n))
      clear hx e1 hr1 hr
      generalize txt x = y at h2 hcv
      go_upto_region 6 with fail
      go_quiet (fail)
      go_wp2_with fail
      exact ⟨⟨k + 1, by simp, by omega, below_dN Hbr.out _⟩, by simp [intOf]; omega⟩
    · have q1 : decide ((k : Int) < (pk.length : Int)) = false := decide_eq_false (by omega)
      go_wp2_with fail
      go_ret
      exact ⟨rfl, Hbr.out⟩
end Go.Proofs.Ytfeipeninmclkaa
