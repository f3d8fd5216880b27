/-
  What is proved: an argument that is a slice of steps (two ints each), opened; the row of OctetsReads out of its function's contract.
  Conditions: the contract, handed in.
-/
import Derived.Test.YtgbopegjieonhaaDoorOpen
import Derived.Deep.SlicePairs
namespace Go.Proofs.YtgbopegjieonhaaDoor
open Go.ChangeShapes Go.WideShapes Go.RowKit Go.Deep

/-- The steps that a slice value holds. -/
def Steps (w : World) (A : Option Addr) (M : Nat) : Prop :=
  ∀ k, k < M → ∃ g o kd n, A = some ⟨g, o, none⟩ ∧ w.cell? ⟨g, o + k * 2, none⟩ = some (.int .i64 kd) ∧ w.cell? ⟨g, o + k * 2 + 1, none⟩ = some (.int .i64 n) ∧ -9223372036854775808 ≤ n ∧ n ≤ 9223372036854775807

theorem i64_wf {n : Int} (h : (Lit.int .i64 n).wf = true) : -9223372036854775808 ≤ n ∧ n ≤ 9223372036854775807 := by
  have hmin : IntKind.i64.min = -9223372036854775808 := by rfl
  have hmax : IntKind.i64.max = 9223372036854775807 := by rfl
  simp [Lit.wf, hmin, hmax] at h
  exact h

section
variable {H : Type} {enc : TypeId × Value → H} {W : World}
set_option maxRecDepth 100000 in
theorem open_steps {base : Nat} {v : Value} {d : DataW H} {ps : List MemPlace} (hv : Value.okWide Tryd.prog W .any base 23 v) (h : DataW.Trod enc Tryd.prog W 0 (fun _ => true) true 23 v d ps) :
    ∃ (A : Option Addr) (M c : Nat), v = .slice A M c ∧ M ≤ c ∧ c ≤ 9223372036854775807 ∧ Steps W A M := by
  obtain ⟨a0, len, cap, rfl⟩ := okWide_slice Tryd.underlying23 hv
  obtain ⟨fuel, hf⟩ := h
  rcases open_slice_pairs Tryd.underlying23 Tryd.underlying33 (by kernel_rfl) rfl rfl (by kernel_rfl) (by kernel_rfl) hf with ⟨hcs, _⟩ | ⟨a, len', cap', m, n, V0, V1, D0, D1, P0, P1, hcs, _, hle, hmax, hm, _, hall⟩
  · simp [Value.cells] at hcs
    obtain ⟨rfl, rfl, rfl⟩ := hcs
    exact ⟨none, 0, 0, rfl, by omega, by omega, fun k hk => absurd hk (by omega)⟩
  · simp [Value.cells] at hcs
    obtain ⟨rfl, rfl, rfl⟩ := hcs
    simp only [if_true] at hm
    refine ⟨some a, len, cap, rfl, hle, by simp only [maxLen] at hmax; omega, fun k hk => ?_⟩
    obtain ⟨h1, h2, h3, h4⟩ := hall k (by omega)
    obtain ⟨b, off, spot⟩ := a
    have hspot : spot = none := by
      have h5 := World.cell?_spot (hall 0 (by omega)).1
      simpa [Addr.add] using h5
    subst hspot
    rw [Addr.add_lit] at h1 h2
    obtain ⟨n0, e0, _, w0⟩ := DataW.trod_int Tryd.underlying3 h3
    obtain ⟨n1, e1, _, w1⟩ := DataW.trod_int Tryd.underlying3 h4
    have e0' : V0 k = .int .i64 n0 := by simpa using e0
    have e1' : V1 k = .int .i64 n1 := by simpa using e1
    have hw := i64_wf w1
    exact ⟨b, off, n0, n1, rfl, by rw [h1, e0'], by rw [Nat.add_assoc, h2, e1'], hw.1, hw.2⟩
end
/-- The contract of OctetsReads. -/
def ReadsSaid : Prop := ∀ (A : Option Addr) (c : Nat) (bs : List UInt8) (A2 : Option Addr) (M c2 : Nat) (w : World), Hdl w → Rd w (.slice A bs.length c) bs → Steps w A2 M → c ≤ 9223372036854775807 → M ≤ c2 → c2 ≤ 9223372036854775807 →
    Calls Tryd.prog 3 #[.slice A bs.length c, .slice A2 M c2] w fun e w' => e = .returned (.bool true) ∧ Below w.heap.size w w'

set_option maxRecDepth 100000 in
theorem reads_lifted (hc : ReadsSaid) (os : Os) (started : os.Started) (H : Type) (enc : TypeId × Value → H) :
    ReturnsInHanded {} Tryd.checked os 3 .any (fun w args => (Rows.octetsReadsSpec.pre enc Tryd.prog Tryd.f3 [] false w args ∧ laidMetH Tryd.prog laidList w) ∧ sizedMet enc Tryd.prog Tryd.f3 (OpenSpec.ofChange Rows.octetsReadsSpec) false w args)
      (Rows.octetsReadsSpec.post enc Tryd.prog Tryd.f3 false true false false) := by
  refine returnsInHanded_of_change_and (C := Tryd.checked) (X := fun w _ => laidMetH Tryd.prog laidList w) (fun _ _ _ hh h => h.of_heap hh) ownGodebug started (by kernel_rfl) Tryd.func3
    (ChangeSpec.witness_at (enc := enc) (C := Tryd.checked) (os := os) (X := fun w _ => laidMetH Tryd.prog laidList w) false (laidWorld os) #[.slice none 0 0, .slice none 0 0] 8 rfl (by kernel_rfl) (by kernel_rfl) (by kernel_rfl) (by kernel_rfl) (by kernel_rfl) (laidWorld_met os _)) ?_
  intro W base args ds gs before hval0 hW _ _ hL _
  have hval : ∀ (j : Nat) t v, Tryd.f3.params[j]? = some t → args[j]? = some v → Value.okWide Tryd.prog W .any base t v := hval0
  have hW' := hW
  obtain ⟨p, q, hA0, hV0, rfl, hfz, hnd⟩ := hW
  have hA : DataW.TrodAll enc Tryd.prog W 0 (fun _ => true) true Tryd.f3.params.toList args.toList ds p := hA0
  have hV : DataW.TrodVars enc Tryd.prog W (fun _ => true) [] gs q := hV0
  rw [Tryd.params3] at hA hval
  obtain ⟨v0, vs1, d0, ds1, p0, q0, ha0, rfl, rfl, h0, hA1⟩ := trodAll_cons hA
  obtain ⟨v1, vs2, d1, ds2, p1, q1, rfl, rfl, rfl, h1, hA2⟩ := trodAll_cons hA1
  obtain ⟨rfl, rfl, rfl⟩ := trodAll_nil hA2
  obtain rfl : args = #[v0, v1] := by cases args; simpa using ha0
  obtain ⟨rfl, rfl⟩ := trodVars_none hV
  obtain ⟨A, c, bs, rfl, hc1, hr1⟩ := open_bytes (hval 0 22 v0 rfl rfl) h0
  obtain ⟨A2, M, c2, rfl, hM, hc2, hr2⟩ := open_steps (hval 1 23 v1 rfl rfl) h1
  refine (hc A c bs A2 M c2 W (hdl_of_laid hL) hr1 hr2 hc1 hM hc2).mono fun e W' ⟨he, hb⟩ => ?_
  subst he
  exact ⟨_, rfl, law_post rfl rfl rfl (by rw [Tryd.params3]; intro t ht; simp at ht; rcases ht with rfl | rfl <;> exact ⟨by kernel_rfl, by rw [typesSize]; decide⟩) hW' hb⟩
theorem reads_row (hc : ReadsSaid) : Rows.OctetsReadsSaid :=
  OpenClaim.holds_of_wide 3 Tryd.f3 rfl rfl rfl rfl rfl rfl rfl ⟨rfl, rfl, rfl, rfl, rfl⟩ rfl rfl rfl rfl rfl (by kernel_rfl) Tryd.func3 (by kernel_rfl)
    (of_decide_eq_true (by kernel_rfl)) (by unfold Func.isWrapper; rw [if_neg (of_decide_eq_false (by kernel_rfl))]; exact ⟨rfl, rfl⟩)
    (fun os started H enc _ => reads_lifted hc os started H enc)
end Go.Proofs.YtgbopegjieonhaaDoor
