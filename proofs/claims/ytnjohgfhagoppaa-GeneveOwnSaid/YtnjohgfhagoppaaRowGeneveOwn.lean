/-
  What is proved: rows of laws out of their functions' contracts.
  Conditions: the contracts, handed in.
-/
import Derived.Test.YtnjohgfhagoppaaGvArg
namespace Go.Proofs.Ytnjohgfhagoppaa
open Go.ChangeShapes Go.WideShapes Go.RowKit

set_option maxRecDepth 100000 in
theorem geneveOwn_lifted (hc : ∀ (n0 : Nat) (A1 : Option Addr) (c1 : Nat) (l1 : List Op) (A2 : Option Addr) (c2 : Nat) (l2 : List UInt8) (w : World), n0 < 4294967296 → OpsAt w A1 l1 → (∀ x ∈ l1, x.Fit) → l1.length ≤ c1 → c1 ≤ 9223372036854775807 → c2 ≤ 9223372036854775807 → Rd w (.slice A2 l2.length c2) l2 → Calls Try.prog 10 #[.int .u32 (n0 : Int), .slice A1 l1.length c1, .slice A2 l2.length c2] w fun e w' => e = .returned (.bool true) ∧ Below w.heap.size w w')
    (os : Os) (started : os.Started) (H : Type) (enc : TypeId × Value → H) :
    ReturnsInHanded {} Try.checked os 10 .any (Rows.geneveOwnSpec.pre6 enc Try.prog Try.f10 Rows.geneveOwnRow.domain false) (Rows.geneveOwnSpec.post enc Try.prog Try.f10 false true false false) := by
  refine returnsInHanded_of_change (C := Try.checked) ownGodebug started (by kernel_rfl) Try.func10
    (ChangeSpec.witness6 (enc := enc) (C := Try.checked) false ⟨#[], #[.int .u32 0, .slice none 0 0, .slice none 0 0], []⟩ 8 (by kernel_rfl) (by kernel_rfl) (by kernel_rfl) (by kernel_rfl)) ?_
  intro W base args ds gs before hval0 hW _ _
  have hval : ∀ (j : Nat) t v, Try.f10.params[j]? = some t → args[j]? = some v → Value.okWide Try.prog W .any base t v := hval0
  have hW' := hW
  obtain ⟨p, q, hA0, hV, rfl, hfz, hnd⟩ := hW
  have hA : DataW.TrodAll enc Try.prog W 0 (fun _ => true) true Try.f10.params.toList args.toList ds p := hA0
  rw [Try.params10] at hA hval
  obtain ⟨v0, vs0, d0, ds0, p0, q0, hargs, rfl, rfl, h0, r0⟩ := trodAll_cons hA
  obtain ⟨v1, vs1, d1, ds1, p1, q1, rfl, rfl, rfl, h1, r1⟩ := trodAll_cons r0
  obtain ⟨v2, vs2, d2, ds2, p2, q2, rfl, rfl, rfl, h2, r2⟩ := trodAll_cons r1
  obtain ⟨rfl, rfl, rfl⟩ := trodAll_nil r2
  obtain rfl : args = #[v0, v1, v2] := by cases args; simpa using hargs
  obtain ⟨rfl, rfl⟩ := trodVars_none hV
  obtain ⟨z0, rfl, rfl, rfl, w0⟩ := open_int Try.underlying22 (hval 0 22 v0 rfl rfl) h0
  obtain ⟨n0, rfl, b0⟩ := u32_wf w0
  obtain ⟨A1, c1, l1, rfl, b1, e1, a1, x1⟩ := open_opts (hval 1 37 v1 rfl rfl) h1
  obtain ⟨A2, c2, l2, rfl, b2, e2⟩ := open_bytes (hval 2 23 v2 rfl rfl) h2
  refine (hc n0 A1 c1 l1 A2 c2 l2 W b0 a1 x1 b1 e1 b2 e2).mono fun e W' ⟨he, hb⟩ => ?_
  subst he
  exact ⟨_, rfl, law_post rfl rfl rfl (by rw [Try.params10]; intro t ht; simp at ht; (try rcases ht with rfl | rfl | rfl) <;> (try subst ht) <;> exact ⟨by kernel_rfl, by rw [typesSize]; decide⟩) hW' hb⟩
theorem geneveOwn_row (hc : ∀ (n0 : Nat) (A1 : Option Addr) (c1 : Nat) (l1 : List Op) (A2 : Option Addr) (c2 : Nat) (l2 : List UInt8) (w : World), n0 < 4294967296 → OpsAt w A1 l1 → (∀ x ∈ l1, x.Fit) → l1.length ≤ c1 → c1 ≤ 9223372036854775807 → c2 ≤ 9223372036854775807 → Rd w (.slice A2 l2.length c2) l2 → Calls Try.prog 10 #[.int .u32 (n0 : Int), .slice A1 l1.length c1, .slice A2 l2.length c2] w fun e w' => e = .returned (.bool true) ∧ Below w.heap.size w w') : Rows.GeneveOwnSaid :=
  OpenClaim.holds_of_wide 10 Try.f10 rfl rfl rfl rfl rfl rfl rfl ⟨rfl, rfl, rfl, rfl, rfl⟩ rfl rfl rfl rfl rfl (by kernel_rfl) Try.func10 (by kernel_rfl)
    (of_decide_eq_true (by kernel_rfl)) (by unfold Func.isWrapper; rw [if_neg (of_decide_eq_false (by kernel_rfl))]; exact ⟨rfl, rfl⟩)
    (fun os started H enc _ => geneveOwn_lifted hc os started H enc)
end Go.Proofs.Ytnjohgfhagoppaa
