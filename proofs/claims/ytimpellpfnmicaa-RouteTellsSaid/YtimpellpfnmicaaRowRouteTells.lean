/-
  What is proved: rows of laws out of their functions' contracts.
  Conditions: the contracts, handed in.
-/
import Derived.Test.YtimpellpfnmicaaRtLift
namespace Go.Proofs.Ytimpellpfnmicaa
open Go.ChangeShapes Go.WideShapes Go.RowKit Go.Deep

set_option maxRecDepth 100000 in
theorem routeTells_lifted (hc : ∀ (A0 : Option Addr) (M0 c0 : Nat) (w : World), M0 ≤ c0 → c0 ≤ 9223372036854775807 → StepsAt w A0 M0 → Calls Try.prog 3 #[.slice A0 M0 c0] w fun e w' => e = .returned (.bool true) ∧ Below w.heap.size w w')
    (os : Os) (started : os.Started) (H : Type) (enc : TypeId × Value → H) :
    ReturnsInHanded {} Try.checked os 3 .any (Rows.routeTellsSpec.pre6 enc Try.prog Try.f3 Rows.routeTellsRow.domain false) (Rows.routeTellsSpec.post enc Try.prog Try.f3 false true false false) := by
  refine returnsInHanded_of_change (C := Try.checked) ownGodebug started (by kernel_rfl) Try.func3
    (ChangeSpec.witness6 (enc := enc) (C := Try.checked) false ⟨#[], #[.slice none 0 0], []⟩ 8 (by kernel_rfl) (by kernel_rfl) (by kernel_rfl) (by kernel_rfl)) ?_
  intro W base args ds gs before hval0 hW _ _
  have hval : ∀ (j : Nat) t v, Try.f3.params[j]? = some t → args[j]? = some v → Value.okWide Try.prog W .any base t v := hval0
  have hW' := hW
  obtain ⟨p, q, hA0, hV, rfl, hfz, hnd⟩ := hW
  have hA : DataW.TrodAll enc Try.prog W 0 (fun _ => true) true Try.f3.params.toList args.toList ds p := hA0
  rw [Try.params3] at hA hval
  obtain ⟨v0, vs0, d0, ds0, p0, q0, hargs, rfl, rfl, h0, r0⟩ := trodAll_cons hA
  obtain ⟨rfl, rfl, rfl⟩ := trodAll_nil r0
  obtain rfl : args = #[v0] := by cases args; simpa using hargs
  obtain ⟨rfl, rfl⟩ := trodVars_none hV
  obtain ⟨A0, M0, c0, rfl, a0, b0, e0⟩ := open_steps (hval 0 22 v0 rfl rfl) h0
  refine (hc A0 M0 c0 W a0 b0 e0).mono fun e W' ⟨he, hb⟩ => ?_
  subst he
  exact ⟨_, rfl, law_post rfl rfl rfl (by rw [Try.params3]; intro t ht; simp at ht; (try rcases ht with rfl) <;> (try subst ht) <;> exact ⟨by kernel_rfl, by rw [typesSize]; decide⟩) hW' hb⟩
theorem routeTells_row (hc : ∀ (A0 : Option Addr) (M0 c0 : Nat) (w : World), M0 ≤ c0 → c0 ≤ 9223372036854775807 → StepsAt w A0 M0 → Calls Try.prog 3 #[.slice A0 M0 c0] w fun e w' => e = .returned (.bool true) ∧ Below w.heap.size w w') : Rows.RouteTellsSaid :=
  OpenClaim.holds_of_wide 3 Try.f3 rfl rfl rfl rfl rfl rfl rfl ⟨rfl, rfl, rfl, rfl, rfl⟩ rfl rfl rfl rfl rfl (by kernel_rfl) Try.func3 (by kernel_rfl)
    (of_decide_eq_true (by kernel_rfl)) (by unfold Func.isWrapper; rw [if_neg (of_decide_eq_false (by kernel_rfl))]; exact ⟨rfl, rfl⟩)
    (fun os started H enc _ => routeTells_lifted hc os started H enc)
end Go.Proofs.Ytimpellpfnmicaa
