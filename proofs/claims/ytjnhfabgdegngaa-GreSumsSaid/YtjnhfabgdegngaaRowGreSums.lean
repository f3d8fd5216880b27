/-
  What is proved: rows of laws out of their functions' contracts.
  Conditions: the contracts, handed in.
-/
import Derived.Test.YtjnhfabgdegngaaGrLift
namespace Go.Proofs.Ytjnhfabgdegngaa
open Go.ChangeShapes Go.WideShapes Go.RowKit

set_option maxRecDepth 100000 in
theorem greSums_lifted (hc : ∀ (h0 : GH) (A1 : Option Addr) (c1 : Nat) (l1 : List UInt8) (n2 : Int) (n3 : Nat) (w : World), h0.Fit → c1 ≤ 9223372036854775807 → Rd w (.slice A1 l1.length c1) l1 → n3 < 256 → Calls Try.prog 4 #[.agg #[.bool h0.s, .bool h0.k, .int .u32 (h0.key : Int), .bool h0.q, .int .u32 (h0.seq : Int)], .slice A1 l1.length c1, .int .i64 n2, .int .u8 (n3 : Int)] w fun e w' => e = .returned (.bool true) ∧ Below w.heap.size w w')
    (os : Os) (started : os.Started) (H : Type) (enc : TypeId × Value → H) :
    ReturnsInHanded {} Try.checked os 4 .any (Rows.greSumsSpec.pre6 enc Try.prog Try.f4 Rows.greSumsRow.domain false) (Rows.greSumsSpec.post enc Try.prog Try.f4 false true false false) := by
  refine returnsInHanded_of_change (C := Try.checked) ownGodebug started (by kernel_rfl) Try.func4
    (ChangeSpec.witness6 (enc := enc) (C := Try.checked) false ⟨#[], #[.agg #[.bool false, .bool false, .int .u32 0, .bool false, .int .u32 0], .slice none 0 0, .int .i64 0, .int .u8 0], []⟩ 8 (by kernel_rfl) (by kernel_rfl) (by kernel_rfl) (by kernel_rfl)) ?_
  intro W base args ds gs before hval0 hW _ _
  have hval : ∀ (j : Nat) t v, Try.f4.params[j]? = some t → args[j]? = some v → Value.okWide Try.prog W .any base t v := hval0
  have hW' := hW
  obtain ⟨p, q, hA0, hV, rfl, hfz, hnd⟩ := hW
  have hA : DataW.TrodAll enc Try.prog W 0 (fun _ => true) true Try.f4.params.toList args.toList ds p := hA0
  rw [Try.params4] at hA hval
  obtain ⟨v0, vs0, d0, ds0, p0, q0, hargs, rfl, rfl, h0, r0⟩ := trodAll_cons hA
  obtain ⟨v1, vs1, d1, ds1, p1, q1, rfl, rfl, rfl, h1, r1⟩ := trodAll_cons r0
  obtain ⟨v2, vs2, d2, ds2, p2, q2, rfl, rfl, rfl, h2, r2⟩ := trodAll_cons r1
  obtain ⟨v3, vs3, d3, ds3, p3, q3, rfl, rfl, rfl, h3, r3⟩ := trodAll_cons r2
  obtain ⟨rfl, rfl, rfl⟩ := trodAll_nil r3
  obtain rfl : args = #[v0, v1, v2, v3] := by cases args; simpa using hargs
  obtain ⟨rfl, rfl⟩ := trodVars_none hV
  obtain ⟨h0g, rfl, a0⟩ := open_gh (hval 0 24 v0 rfl rfl) h0
  obtain ⟨A1, c1, l1, rfl, b1, e1⟩ := open_bytes (hval 1 25 v1 rfl rfl) h1
  obtain ⟨z2, rfl, rfl, rfl, w2⟩ := open_int Try.underlying3 (hval 2 3 v2 rfl rfl) h2
  obtain ⟨z3, rfl, rfl, rfl, w3⟩ := open_int Try.underlying5 (hval 3 5 v3 rfl rfl) h3
  obtain ⟨n3, rfl, b3⟩ := u8n_wf w3
  refine (hc h0g A1 c1 l1 z2 n3 W a0 b1 e1 b3).mono fun e W' ⟨he, hb⟩ => ?_
  subst he
  exact ⟨_, rfl, law_post rfl rfl rfl (by rw [Try.params4]; intro t ht; simp at ht; (try rcases ht with rfl | rfl | rfl | rfl) <;> (try subst ht) <;> exact ⟨by kernel_rfl, by rw [typesSize]; decide⟩) hW' hb⟩
theorem greSums_row (hc : ∀ (h0 : GH) (A1 : Option Addr) (c1 : Nat) (l1 : List UInt8) (n2 : Int) (n3 : Nat) (w : World), h0.Fit → c1 ≤ 9223372036854775807 → Rd w (.slice A1 l1.length c1) l1 → n3 < 256 → Calls Try.prog 4 #[.agg #[.bool h0.s, .bool h0.k, .int .u32 (h0.key : Int), .bool h0.q, .int .u32 (h0.seq : Int)], .slice A1 l1.length c1, .int .i64 n2, .int .u8 (n3 : Int)] w fun e w' => e = .returned (.bool true) ∧ Below w.heap.size w w') : Rows.GreSumsSaid :=
  OpenClaim.holds_of_wide 4 Try.f4 rfl rfl rfl rfl rfl rfl rfl ⟨rfl, rfl, rfl, rfl, rfl⟩ rfl rfl rfl rfl rfl (by kernel_rfl) Try.func4 (by kernel_rfl)
    (of_decide_eq_true (by kernel_rfl)) (by unfold Func.isWrapper; rw [if_neg (of_decide_eq_false (by kernel_rfl))]; exact ⟨rfl, rfl⟩)
    (fun os started H enc _ => greSums_lifted hc os started H enc)
end Go.Proofs.Ytjnhfabgdegngaa
