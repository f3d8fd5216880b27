/-
  What is proved: an ICMP message among a law's arguments, opened.
  Conditions: none of its own.
-/
import Derived.Test.YtlhanaglhkmcfaaDoorIMsg
import Derived.Test.YtlhanaglhkmcfaaDoorVLift
namespace Go.Proofs.YtlhanaglhkmcfaaDoor
open Go.ChangeShapes Go.WideShapes Go.RowKit

/-- The message's numbers fit their types; of its bytes nothing is said. -/
structure Ms.Fit (m : Ms) : Prop where
  typ : m.typ < 256
  code : m.code < 256
  rest : m.rest < 4294967296
theorem Ms.Fit.inn {m : Ms} (h : m.Fit) (l : List UInt8) (hl : l.length ≤ 1099511000000) : ({ m with b := l } : Ms).In := ⟨h.typ, h.code, h.rest, hl⟩
theorem open_ms_cellsOf : Tryd.prog.cellsOf 25 = 4 := by kernel_rfl
section
variable {H : Type} {enc : TypeId × Value → H} {W : World}
set_option maxRecDepth 100000 in
theorem open_ms {base : Nat} {v : Value} {d : DataW H} {ps : List MemPlace} (hv : Value.okWide Tryd.prog W .any base 25 v) (h : DataW.Trod enc Tryd.prog W 0 (fun _ => true) true 25 v d ps) :
    ∃ (m : Ms) (A : Option Addr) (c : Nat), v = m.val (.slice A m.b.length c) ∧ c ≤ 9223372036854775807 ∧ Rd W (.slice A m.b.length c) m.b ∧ m.Fit := by
  obtain ⟨cs, rfl, hz⟩ := okWide_struct Tryd.underlying25 hv
  obtain ⟨fuel, hf⟩ := h
  obtain ⟨ys, n, rfl, _, _, hyl, hfld⟩ := DataW.trod_struct Tryd.underlying25 hf
  rw [open_ms_cellsOf] at hz
  have k0 : Tryd.prog.cellsOf 5 = 1 := by kernel_rfl
  have k1 : Tryd.prog.cellsOf 22 = 1 := by kernel_rfl
  have k2 : Tryd.prog.cellsOf 23 = 1 := by kernel_rfl
  have hy : ys.length = 4 := by rw [hyl]; rfl
  obtain ⟨l⟩ := cs
  have hz' : l.length = 4 := hz
  match l, hz' with
  | [c0, c1, c2, c3], _ =>
    match ys, hy with
    | [y0, y1, y2, y3], _ =>
      have f0 : DataW.trod enc Tryd.prog W 0 (fun _ => true) true n 5 [c0] = some y0 := by
        have h : DataW.trod enc Tryd.prog W 0 (fun _ => true) true n 5 (List.take (Tryd.prog.cellsOf 5) (List.drop 0 [c0, c1, c2, c3])) = some y0 := hfld 0 _ rfl
        rw [k0] at h
        exact h
      have f1 : DataW.trod enc Tryd.prog W 0 (fun _ => true) true n 5 [c1] = some y1 := by
        have h : DataW.trod enc Tryd.prog W 0 (fun _ => true) true n 5 (List.take (Tryd.prog.cellsOf 5) (List.drop 1 [c0, c1, c2, c3])) = some y1 := hfld 1 _ rfl
        rw [k0] at h
        exact h
      have f2 : DataW.trod enc Tryd.prog W 0 (fun _ => true) true n 22 [c2] = some y2 := by
        have h : DataW.trod enc Tryd.prog W 0 (fun _ => true) true n 22 (List.take (Tryd.prog.cellsOf 22) (List.drop 2 [c0, c1, c2, c3])) = some y2 := hfld 2 _ rfl
        rw [k1] at h
        exact h
      have f3 : DataW.trod enc Tryd.prog W 0 (fun _ => true) true n 23 [c3] = some y3 := by
        have h : DataW.trod enc Tryd.prog W 0 (fun _ => true) true n 23 (List.take (Tryd.prog.cellsOf 23) (List.drop 3 [c0, c1, c2, c3])) = some y3 := hfld 3 _ rfl
        rw [k2] at h
        exact h
      obtain ⟨z0, e0, _, w0⟩ := DataW.trod_int Tryd.underlying5 f0
      obtain ⟨a0, rfl, l0⟩ := u8n_wf w0
      obtain ⟨z1, e1, _, w1⟩ := DataW.trod_int Tryd.underlying5 f1
      obtain ⟨a1, rfl, l1⟩ := u8n_wf w1
      obtain ⟨z2, e2, _, w2⟩ := DataW.trod_int Tryd.underlying22 f2
      obtain ⟨a2, rfl, l2⟩ := u32_wf w2
      obtain ⟨A3, q3, b3, rfl, hc3, hr3⟩ := open_bytes_in f3
      simp only [List.cons.injEq, and_true] at e0 e1 e2
      subst e0
      subst e1
      subst e2
      exact ⟨⟨a0, a1, a2, b3⟩, A3, q3, rfl, hc3, hr3, ⟨l0, l1, l2⟩⟩
end
end Go.Proofs.YtlhanaglhkmcfaaDoor
