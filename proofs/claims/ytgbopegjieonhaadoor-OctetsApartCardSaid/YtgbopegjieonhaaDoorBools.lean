/-
  What is proved: an argument that is a slice of bools, opened; the row of OctetsApart out of its function's contract.
  Conditions: the contract, handed in.
-/
import Derived.Test.YtgbopegjieonhaaDoorPutsArg
namespace Go.Proofs.YtgbopegjieonhaaDoor
open Go.ChangeShapes Go.WideShapes Go.RowKit Go.Deep

/-- The bools that a slice value holds. -/
def BoolsIn (w : World) (A : Option Addr) (M : Nat) : Prop := ∀ k, k < M → ∃ g o b, A = some ⟨g, o, none⟩ ∧ w.cell? ⟨g, o + k, none⟩ = some (.bool b)

section
variable {H : Type} {enc : TypeId × Value → H} {W : World}
set_option maxRecDepth 100000 in
theorem open_bools {base : Nat} {v : Value} {d : DataW H} {ps : List MemPlace} (hv : Value.okWide Tryd.prog W .any base 69 v) (h : DataW.Trod enc Tryd.prog W 0 (fun _ => true) true 69 v d ps) :
    ∃ (A : Option Addr) (M c : Nat), v = .slice A M c ∧ M ≤ c ∧ c ≤ 9223372036854775807 ∧ BoolsIn W A M := by
  obtain ⟨a0, len, cap, rfl⟩ := okWide_slice Tryd.underlying69 hv
  obtain ⟨fuel, hf⟩ := h
  have hC : Tryd.prog.cellsOf 4 = 1 := by kernel_rfl
  rcases open_slice Tryd.underlying69 hf with ⟨hcs, _⟩ | ⟨a, len', cap', m, n, D, Pl, hcs, _, hle, hmax, hm, _, hall⟩
  · simp [Value.cells] at hcs
    obtain ⟨rfl, rfl, rfl⟩ := hcs
    exact ⟨none, 0, 0, rfl, by omega, by omega, fun k hk => absurd hk (by omega)⟩
  · simp [Value.cells] at hcs
    obtain ⟨rfl, rfl, rfl⟩ := hcs
    simp only [if_true] at hm
    refine ⟨some a, len, cap, rfl, hle, by simp only [maxLen] at hmax; omega, fun k hk => ?_⟩
    have hspot : ∃ b off, a = ⟨b, off, none⟩ := by
      obtain ⟨cs0, hc0, _⟩ := hall 0 (by omega)
      rw [hC] at hc0
      obtain ⟨_, hl0, hat0⟩ := World.cells?_some hc0
      have h5 := hat0 0 (by omega)
      have h6 : cs0[0]? = some (cs0[0]'(by omega)) := List.getElem?_eq_getElem (by omega)
      rw [h6] at h5
      have h7 := World.cell?_spot h5
      obtain ⟨b, off, spot⟩ := a
      refine ⟨b, off, ?_⟩
      have h8 : spot = none := by simpa [Addr.add] using h7
      rw [h8]
    obtain ⟨b, off, rfl⟩ := hspot
    obtain ⟨cs, hc, ht⟩ := hall k (by omega)
    rw [hC] at hc
    obtain ⟨_, hl, hat⟩ := World.cells?_some hc
    match cs, hl with
    | [c0], _ =>
      obtain ⟨b0, e0, _⟩ := DataW.trod_bool Tryd.underlying4 ht
      have e0' : c0 = .bool b0 := by simpa using e0
      subst e0'
      have a0 := hat 0 (by omega)
      simp only [Addr.add_lit] at a0
      exact ⟨b, off, b0, rfl, by simpa using a0⟩
end
/-- The contract of OctetsApart. -/
def ApartSaid : Prop := ∀ (A : Option Addr) (M c : Nat) (A2 : Option Addr) (M2 c2 : Nat) (w : World), Hdl w → PutsAt w A M → BoolsIn w A2 M2 → M ≤ c → c ≤ 9223372036854775807 → M2 ≤ c2 → c2 ≤ 9223372036854775807 →
    Calls Tryd.prog 8 #[.slice A M c, .slice A2 M2 c2] w fun e w' => e = .returned (.bool true) ∧ Below w.heap.size w w'

set_option maxRecDepth 100000 in
theorem apart_lifted (hc : ApartSaid) (os : Os) (started : os.Started) (H : Type) (enc : TypeId × Value → H) :
    ReturnsInHanded {} Tryd.checked os 8 .any (fun w args => (Rows.octetsApartSpec.pre enc Tryd.prog Tryd.f8 [] false w args ∧ laidMetH Tryd.prog laidList w) ∧ sizedMet enc Tryd.prog Tryd.f8 (OpenSpec.ofChange Rows.octetsApartSpec) false w args)
      (Rows.octetsApartSpec.post enc Tryd.prog Tryd.f8 false true false false) := by
  refine returnsInHanded_of_change_and (C := Tryd.checked) (X := fun w _ => laidMetH Tryd.prog laidList w) (fun _ _ _ hh h => h.of_heap hh) ownGodebug started (by kernel_rfl) Tryd.func8
    (ChangeSpec.witness_at (enc := enc) (C := Tryd.checked) (os := os) (X := fun w _ => laidMetH Tryd.prog laidList w) false (laidWorld os) #[.slice none 0 0, .slice none 0 0] 8 rfl (by kernel_rfl) (by kernel_rfl) (by kernel_rfl) (by kernel_rfl) (by kernel_rfl) (laidWorld_met os _)) ?_
  intro W base args ds gs before hval0 hW _ _ hL _
  have hval : ∀ (j : Nat) t v, Tryd.f8.params[j]? = some t → args[j]? = some v → Value.okWide Tryd.prog W .any base t v := hval0
  have hW' := hW
  obtain ⟨p, q, hA0, hV0, rfl, hfz, hnd⟩ := hW
  have hA : DataW.TrodAll enc Tryd.prog W 0 (fun _ => true) true Tryd.f8.params.toList args.toList ds p := hA0
  have hV : DataW.TrodVars enc Tryd.prog W (fun _ => true) [] gs q := hV0
  rw [Tryd.params8] at hA hval
  obtain ⟨v0, vs1, d0, ds1, p0, q0, ha0, rfl, rfl, h0, hA1⟩ := trodAll_cons hA
  obtain ⟨v1, vs2, d1, ds2, p1, q1, rfl, rfl, rfl, h1, hA2⟩ := trodAll_cons hA1
  obtain ⟨rfl, rfl, rfl⟩ := trodAll_nil hA2
  obtain rfl : args = #[v0, v1] := by cases args; simpa using ha0
  obtain ⟨rfl, rfl⟩ := trodVars_none hV
  obtain ⟨A, M, c, rfl, hM, hc1, hr1⟩ := open_puts (hval 0 52 v0 rfl rfl) h0
  obtain ⟨A2, M2, c2, rfl, hM2, hc2, hr2⟩ := open_bools (hval 1 69 v1 rfl rfl) h1
  refine (hc A M c A2 M2 c2 W (hdl_of_laid hL) hr1 hr2 hM hc1 hM2 hc2).mono fun e W' ⟨he, hb⟩ => ?_
  subst he
  exact ⟨_, rfl, law_post rfl rfl rfl (by rw [Tryd.params8]; intro t ht; simp at ht; rcases ht with rfl | rfl <;> exact ⟨by kernel_rfl, by rw [typesSize]; decide⟩) hW' hb⟩
theorem apart_row (hc : ApartSaid) : Rows.OctetsApartSaid :=
  OpenClaim.holds_of_wide 8 Tryd.f8 rfl rfl rfl rfl rfl rfl rfl ⟨rfl, rfl, rfl, rfl, rfl⟩ rfl rfl rfl rfl rfl (by kernel_rfl) Tryd.func8 (by kernel_rfl)
    (of_decide_eq_true (by kernel_rfl)) (by unfold Func.isWrapper; rw [if_neg (of_decide_eq_false (by kernel_rfl))]; exact ⟨rfl, rfl⟩)
    (fun os started H enc _ => apart_lifted hc os started H enc)
end Go.Proofs.YtgbopegjieonhaaDoor
