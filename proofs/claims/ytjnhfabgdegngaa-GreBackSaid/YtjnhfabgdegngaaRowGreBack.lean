/-
  What is proved: rows of laws out of their functions' contracts.
  Conditions: the contracts, handed in.
-/
import Derived.Test.YtjnhfabgdegngaaGrLift
namespace Go.Proofs.Ytjnhfabgdegngaa
open Go.ChangeShapes Go.WideShapes Go.RowKit

set_option maxRecDepth 100000 in
theorem greBack_lifted (hc : ∀ (h0 : GH) (A1 : Option Addr) (c1 : Nat) (l1 : List UInt8) (w : World), h0.Fit → c1 ≤ 9223372036854775807 → Rd w (.slice A1 l1.length c1) l1 → Calls Try.prog 3 #[.agg #[.bool h0.s, .bool h0.k, .int .u32 (h0.key : Int), .bool h0.q, .int .u32 (h0.seq : Int)], .slice A1 l1.length c1] w fun e w' => e = .returned (.bool true) ∧ Below w.heap.size w w')
    (os : Os) (started : os.Started) (H : Type) (enc : TypeId × Value → H) :
    ReturnsInHanded {} Try.checked os 3 .any (Rows.greBackSpec.pre6 enc Try.prog Try.f3 Rows.greBackRow.domain false) (Rows.greBackSpec.post enc Try.prog Try.f3 false true false false) := by
  refine returnsInHanded_of_change (C := Try.checked) ownGodebug started (by kernel_rfl) Try.func3
    (ChangeSpec.witness6 (enc := enc) (C := Try.checked) false ⟨#[], #[.agg #[.bool false, .bool false, .int .u32 0, .bool false, .int .u32 0], .slice none 0 0], []⟩ 8 (by kernel_rfl) (by kernel_rfl) (by kernel_rfl) (by kernel_rfl)) ?_
  intro W base args ds gs before hval0 hW _ _
  have hval : ∀ (j : Nat) t v, Try.f3.params[j]? = some t → args[j]? = some v → Value.okWide Try.prog W .any base t v := hval0
  have hW' := hW
  obtain ⟨p, q, hA0, hV, rfl, hfz, hnd⟩ := hW
  have hA : DataW.TrodAll enc Try.prog W 0 (fun _ => true) true Try.f3.params.toList args.toList ds p := hA0
  rw [Try.params3] at hA hval
  obtain ⟨v0, vs0, d0, ds0, p0, q0, hargs, rfl, rfl, h0, r0⟩ := trodAll_cons hA
  obtain ⟨v1, vs1, d1, ds1, p1, q1, rfl, rfl, rfl, h1, r1⟩ := trodAll_cons r0
  obtain ⟨rfl, rfl, rfl⟩ := trodAll_nil r1
  obtain rfl : args = #[v0, v1] := by cases args; simpa using hargs
  obtain ⟨rfl, rfl⟩ := trodVars_none hV
  obtain ⟨h0g, rfl, a0⟩ := open_gh (hval 0 24 v0 rfl rfl) h0
  obtain ⟨A1, c1, l1, rfl, b1, e1⟩ := open_bytes (hval 1 25 v1 rfl rfl) h1
  refine (hc h0g A1 c1 l1 W a0 b1 e1).mono fun e W' ⟨he, hb⟩ => ?_
  subst he
  exact ⟨_, rfl, law_post rfl rfl rfl (by rw [Try.params3]; intro t ht; simp at ht; (try rcases ht with rfl | rfl) <;> (try subst ht) <;> exact ⟨by kernel_rfl, by rw [typesSize]; decide⟩) hW' hb⟩
theorem greBack_row (hc : ∀ (h0 : GH) (A1 : Option Addr) (c1 : Nat) (l1 : List UInt8) (w : World), h0.Fit → c1 ≤ 9223372036854775807 → Rd w (.slice A1 l1.length c1) l1 → Calls Try.prog 3 #[.agg #[.bool h0.s, .bool h0.k, .int .u32 (h0.key : Int), .bool h0.q, .int .u32 (h0.seq : Int)], .slice A1 l1.length c1] w fun e w' => e = .returned (.bool true) ∧ Below w.heap.size w w') : Rows.GreBackSaid :=
  OpenClaim.holds_of_wide 3 Try.f3 rfl rfl rfl rfl rfl rfl rfl ⟨rfl, rfl, rfl, rfl, rfl⟩ rfl rfl rfl rfl rfl (by kernel_rfl) Try.func3 (by kernel_rfl)
    (of_decide_eq_true (by kernel_rfl)) (by unfold Func.isWrapper; rw [if_neg (of_decide_eq_false (by kernel_rfl))]; exact ⟨rfl, rfl⟩)
    (fun os started H enc _ => greBack_lifted hc os started H enc)
end Go.Proofs.Ytjnhfabgdegngaa
