/-
  What is proved: rows of laws out of their functions' contracts.
  Conditions: the contracts, handed in.
-/
import Derived.Test.YtphmgnlhnaobkaaSLift
namespace Go.Proofs.Ytphmgnlhnaobkaa
open Go.ChangeShapes Go.WideShapes Go.RowKit Go.Deep

set_option maxRecDepth 100000 in
theorem sumChain_lifted (hc : ∀ (A0 : Option Addr) (c0 : Nat) (l0 : List UInt8) (A1 : Option Addr) (c1 : Nat) (l1 : List UInt8) (A2 : Option Addr) (M2 c2 : Nat) (w : World), c0 ≤ 9223372036854775807 → Rd w (.slice A0 l0.length c0) l0 → c1 ≤ 9223372036854775807 → Rd w (.slice A1 l1.length c1) l1 → M2 ≤ c2 → c2 ≤ 9223372036854775807 → WordsAt w A2 M2 → Calls Try.prog 9 #[.slice A0 l0.length c0, .slice A1 l1.length c1, .slice A2 M2 c2] w fun e w' => e = .returned (.bool true) ∧ Below w.heap.size w w')
    (os : Os) (started : os.Started) (H : Type) (enc : TypeId × Value → H) :
    ReturnsInHanded {} Try.checked os 9 .any (Rows.sumChainSpec.pre6 enc Try.prog Try.f9 Rows.sumChainRow.domain false) (Rows.sumChainSpec.post enc Try.prog Try.f9 false true false false) := by
  refine returnsInHanded_of_change (C := Try.checked) ownGodebug started (by kernel_rfl) Try.func9
    (ChangeSpec.witness6 (enc := enc) (C := Try.checked) false ⟨#[], #[.slice none 0 0, .slice none 0 0, .slice none 0 0], []⟩ 8 (by kernel_rfl) (by kernel_rfl) (by kernel_rfl) (by kernel_rfl)) ?_
  intro W base args ds gs before hval0 hW _ _
  have hval : ∀ (j : Nat) t v, Try.f9.params[j]? = some t → args[j]? = some v → Value.okWide Try.prog W .any base t v := hval0
  have hW' := hW
  obtain ⟨p, q, hA0, hV, rfl, hfz, hnd⟩ := hW
  have hA : DataW.TrodAll enc Try.prog W 0 (fun _ => true) true Try.f9.params.toList args.toList ds p := hA0
  rw [Try.params9] at hA hval
  obtain ⟨v0, vs0, d0, ds0, p0, q0, hargs, rfl, rfl, h0, r0⟩ := trodAll_cons hA
  obtain ⟨v1, vs1, d1, ds1, p1, q1, rfl, rfl, rfl, h1, r1⟩ := trodAll_cons r0
  obtain ⟨v2, vs2, d2, ds2, p2, q2, rfl, rfl, rfl, h2, r2⟩ := trodAll_cons r1
  obtain ⟨rfl, rfl, rfl⟩ := trodAll_nil r2
  obtain rfl : args = #[v0, v1, v2] := by cases args; simpa using hargs
  obtain ⟨rfl, rfl⟩ := trodVars_none hV
  obtain ⟨A0, c0, l0, rfl, b0, e0⟩ := open_bytes (hval 0 32 v0 rfl rfl) h0
  obtain ⟨A1, c1, l1, rfl, b1, e1⟩ := open_bytes (hval 1 32 v1 rfl rfl) h1
  obtain ⟨A2, M2, c2, rfl, a2, b2, e2⟩ := open_words (hval 2 42 v2 rfl rfl) h2
  refine (hc A0 c0 l0 A1 c1 l1 A2 M2 c2 W b0 e0 b1 e1 a2 b2 e2).mono fun e W' ⟨he, hb⟩ => ?_
  subst he
  exact ⟨_, rfl, law_post rfl rfl rfl (by rw [Try.params9]; intro t ht; simp at ht; (try rcases ht with rfl | rfl) <;> (try subst ht) <;> exact ⟨by kernel_rfl, by rw [typesSize]; decide⟩) hW' hb⟩
theorem sumChain_row (hc : ∀ (A0 : Option Addr) (c0 : Nat) (l0 : List UInt8) (A1 : Option Addr) (c1 : Nat) (l1 : List UInt8) (A2 : Option Addr) (M2 c2 : Nat) (w : World), c0 ≤ 9223372036854775807 → Rd w (.slice A0 l0.length c0) l0 → c1 ≤ 9223372036854775807 → Rd w (.slice A1 l1.length c1) l1 → M2 ≤ c2 → c2 ≤ 9223372036854775807 → WordsAt w A2 M2 → Calls Try.prog 9 #[.slice A0 l0.length c0, .slice A1 l1.length c1, .slice A2 M2 c2] w fun e w' => e = .returned (.bool true) ∧ Below w.heap.size w w') : Rows.SumChainSaid :=
  OpenClaim.holds_of_wide 9 Try.f9 rfl rfl rfl rfl rfl rfl rfl ⟨rfl, rfl, rfl, rfl, rfl⟩ rfl rfl rfl rfl rfl (by kernel_rfl) Try.func9 (by kernel_rfl)
    (of_decide_eq_true (by kernel_rfl)) (by unfold Func.isWrapper; rw [if_neg (of_decide_eq_false (by kernel_rfl))]; exact ⟨rfl, rfl⟩)
    (fun os started H enc _ => sumChain_lifted hc os started H enc)
end Go.Proofs.Ytphmgnlhnaobkaa
