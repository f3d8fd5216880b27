/-
  What is proved: a GRE header, and a row of numbers, among a law's arguments, opened.
  Conditions: none of its own.
-/
import Derived.Test.YtjnhfabgdegngaaDoorKxLift
import Derived.Test.YtjnhfabgdegngaaDoorGrMem
namespace Go.Proofs.YtjnhfabgdegngaaDoor
open Go.ChangeShapes Go.WideShapes Go.RowKit

theorem open_gh_cellsOf : Tryd.prog.cellsOf 24 = 5 := by kernel_rfl
section
variable {H : Type} {enc : TypeId × Value → H} {W : World}
set_option maxRecDepth 100000 in
theorem open_gh {base : Nat} {v : Value} {d : DataW H} {ps : List MemPlace} (hv : Value.okWide Tryd.prog W .any base 24 v) (h : DataW.Trod enc Tryd.prog W 0 (fun _ => true) true 24 v d ps) :
    ∃ h : GH, v = .agg #[.bool h.s, .bool h.k, .int .u32 (h.key : Int), .bool h.q, .int .u32 (h.seq : Int)] ∧ h.Fit := by
  obtain ⟨cs, rfl, hz⟩ := okWide_struct Tryd.underlying24 hv
  obtain ⟨fuel, hf⟩ := h
  obtain ⟨ys, n, rfl, _, _, hyl, hfld⟩ := DataW.trod_struct Tryd.underlying24 hf
  rw [open_gh_cellsOf] at hz
  have k0 : Tryd.prog.cellsOf 4 = 1 := by kernel_rfl
  have k1 : Tryd.prog.cellsOf 22 = 1 := by kernel_rfl
  have hy : ys.length = 5 := by rw [hyl]; rfl
  obtain ⟨l⟩ := cs
  have hz' : l.length = 5 := hz
  match l, hz' with
  | [c0, c1, c2, c3, c4], _ =>
    match ys, hy with
    | [y0, y1, y2, y3, y4], _ =>
      have f0 : DataW.trod enc Tryd.prog W 0 (fun _ => true) true n 4 [c0] = some y0 := by
        have h : DataW.trod enc Tryd.prog W 0 (fun _ => true) true n 4 (List.take (Tryd.prog.cellsOf 4) (List.drop 0 [c0, c1, c2, c3, c4])) = some y0 := hfld 0 _ rfl
        rw [k0] at h
        exact h
      have f1 : DataW.trod enc Tryd.prog W 0 (fun _ => true) true n 4 [c1] = some y1 := by
        have h : DataW.trod enc Tryd.prog W 0 (fun _ => true) true n 4 (List.take (Tryd.prog.cellsOf 4) (List.drop 1 [c0, c1, c2, c3, c4])) = some y1 := hfld 1 _ rfl
        rw [k0] at h
        exact h
      have f2 : DataW.trod enc Tryd.prog W 0 (fun _ => true) true n 22 [c2] = some y2 := by
        have h : DataW.trod enc Tryd.prog W 0 (fun _ => true) true n 22 (List.take (Tryd.prog.cellsOf 22) (List.drop 2 [c0, c1, c2, c3, c4])) = some y2 := hfld 2 _ rfl
        rw [k1] at h
        exact h
      have f3 : DataW.trod enc Tryd.prog W 0 (fun _ => true) true n 4 [c3] = some y3 := by
        have h : DataW.trod enc Tryd.prog W 0 (fun _ => true) true n 4 (List.take (Tryd.prog.cellsOf 4) (List.drop 3 [c0, c1, c2, c3, c4])) = some y3 := hfld 3 _ rfl
        rw [k0] at h
        exact h
      have f4 : DataW.trod enc Tryd.prog W 0 (fun _ => true) true n 22 [c4] = some y4 := by
        have h : DataW.trod enc Tryd.prog W 0 (fun _ => true) true n 22 (List.take (Tryd.prog.cellsOf 22) (List.drop 4 [c0, c1, c2, c3, c4])) = some y4 := hfld 4 _ rfl
        rw [k1] at h
        exact h
      obtain ⟨b0, e0, _⟩ := DataW.trod_bool Tryd.underlying4 f0
      obtain ⟨b1, e1, _⟩ := DataW.trod_bool Tryd.underlying4 f1
      obtain ⟨z2, e2, _, w2⟩ := DataW.trod_int Tryd.underlying22 f2
      obtain ⟨a2, rfl, l2⟩ := u32_wf w2
      obtain ⟨b3, e3, _⟩ := DataW.trod_bool Tryd.underlying4 f3
      obtain ⟨z4, e4, _, w4⟩ := DataW.trod_int Tryd.underlying22 f4
      obtain ⟨a4, rfl, l4⟩ := u32_wf w4
      simp only [List.cons.injEq, and_true] at e0 e1 e2 e3 e4
      subst e0
      subst e1
      subst e2
      subst e3
      subst e4
      exact ⟨⟨b0, b1, a2, b3, a4⟩, rfl, ⟨l2, l4⟩⟩
end
/-- At 'A' lie these numbers. -/
def U32At (W : World) (A : Option Addr) (ns : List Nat) : Prop :=
  ∀ (k x : Nat), ns[k]? = some x → ∃ g o, A = some ⟨g, o, none⟩ ∧ W.cell? ⟨g, o + k, none⟩ = some (.int .u32 (x : Int)) ∧ x < 4294967296
theorem U32At.below {W W' : World} {A : Option Addr} {ns : List Nat} (h : U32At W A ns) (hb : Below W.heap.size W W') : U32At W' A ns := fun k x hk => by
  obtain ⟨g, o, e, hc, hx⟩ := h k x hk
  exact ⟨g, o, e, (hb.cell (World.block_lt_of_cell? W _ hc)).trans hc, hx⟩
theorem u32s_of_ints : ∀ zs : List Int, (∀ n ∈ zs, (Lit.int .u32 n).wf = true) → ∃ ns : List Nat, (zs = ns.map fun (b : Nat) => (b : Int)) ∧ ∀ n ∈ ns, n < 4294967296
  | [], _ => ⟨[], rfl, by simp⟩
  | z :: zs, h => by
    obtain ⟨a, rfl, ha⟩ := u32_wf (h z (List.mem_cons_self ..))
    obtain ⟨bs, rfl, hb⟩ := u32s_of_ints zs (fun n hn => h n (List.mem_cons_of_mem _ hn))
    exact ⟨a :: bs, rfl, by intro n hn; rcases List.mem_cons.1 hn with rfl | hn; exact ha; exact hb n hn⟩
section
variable {H : Type} {enc : TypeId × Value → H} {W : World}
end
end Go.Proofs.YtjnhfabgdegngaaDoor
