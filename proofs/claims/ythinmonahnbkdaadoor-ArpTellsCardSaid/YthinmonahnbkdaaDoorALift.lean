/-
  What is proved: an ARP packet among a law's arguments, opened.
  Conditions: none of its own.
-/
import Derived.Test.YthinmonahnbkdaaDoorAPkt
namespace Go.Proofs.YthinmonahnbkdaaDoor
open Go.ChangeShapes Go.WideShapes Go.RowKit

theorem u32_wf {n : Int} (h : (Lit.int .u32 n).wf = true) : ∃ a : Nat, n = (a : Int) ∧ a < 4294967296 := by
  have hmin : IntKind.u32.min = 0 := by rfl
  have hmax : IntKind.u32.max = 4294967295 := by rfl
  simp [Lit.wf, hmin, hmax] at h
  exact ⟨n.toNat, by omega, by omega⟩
theorem u8n_wf {n : Int} (h : (Lit.int .u8 n).wf = true) : ∃ a : Nat, n = (a : Int) ∧ a < 256 := by
  have hmin : IntKind.u8.min = 0 := by rfl
  have hmax : IntKind.u8.max = 255 := by rfl
  simp [Lit.wf, hmin, hmax] at h
  exact ⟨n.toNat, by omega, by omega⟩
theorem open_pkt_cellsOf : Tryd.prog.cellsOf 29 = 15 := by kernel_rfl
section
variable {H : Type} {enc : TypeId × Value → H} {W : World}
set_option maxRecDepth 100000 in
theorem open_pkt {base : Nat} {v : Value} {d : DataW H} {ps : List MemPlace} (hv : Value.okWide Tryd.prog W .any base 29 v) (h : DataW.Trod enc Tryd.prog W 0 (fun _ => true) true 29 v d ps) :
    ∃ p : Pkt, v = p.val ∧ p.In := by
  obtain ⟨cs, rfl, hz⟩ := okWide_struct Tryd.underlying29 hv
  obtain ⟨fuel, hf⟩ := h
  obtain ⟨ys, n, rfl, _, _, hyl, hfld⟩ := DataW.trod_struct Tryd.underlying29 hf
  rw [open_pkt_cellsOf] at hz
  have k0 : Tryd.prog.cellsOf 23 = 1 := by kernel_rfl
  have k1 : Tryd.prog.cellsOf 25 = 6 := by kernel_rfl
  have k2 : Tryd.prog.cellsOf 27 = 1 := by kernel_rfl
  have hy : ys.length = 5 := by rw [hyl]; rfl
  obtain ⟨l⟩ := cs
  have hz' : l.length = 15 := hz
  match l, hz' with
  | [c0, c1, c2, c3, c4, c5, c6, c7, c8, c9, c10, c11, c12, c13, c14], _ =>
    match ys, hy with
    | [y0, y1, y2, y3, y4], _ =>
      have f0 : DataW.trod enc Tryd.prog W 0 (fun _ => true) true n 23 [c0] = some y0 := by
        have h : DataW.trod enc Tryd.prog W 0 (fun _ => true) true n 23 (List.take (Tryd.prog.cellsOf 23) (List.drop 0 [c0, c1, c2, c3, c4, c5, c6, c7, c8, c9, c10, c11, c12, c13, c14])) = some y0 := hfld 0 _ rfl
        rw [k0] at h
        exact h
      have f1 : DataW.trod enc Tryd.prog W 0 (fun _ => true) true n 25 [c1, c2, c3, c4, c5, c6] = some y1 := by
        have h : DataW.trod enc Tryd.prog W 0 (fun _ => true) true n 25 (List.take (Tryd.prog.cellsOf 25) (List.drop 1 [c0, c1, c2, c3, c4, c5, c6, c7, c8, c9, c10, c11, c12, c13, c14])) = some y1 := hfld 1 _ rfl
        rw [k1] at h
        exact h
      have f2 : DataW.trod enc Tryd.prog W 0 (fun _ => true) true n 27 [c7] = some y2 := by
        have h : DataW.trod enc Tryd.prog W 0 (fun _ => true) true n 27 (List.take (Tryd.prog.cellsOf 27) (List.drop 7 [c0, c1, c2, c3, c4, c5, c6, c7, c8, c9, c10, c11, c12, c13, c14])) = some y2 := hfld 2 _ rfl
        rw [k2] at h
        exact h
      have f3 : DataW.trod enc Tryd.prog W 0 (fun _ => true) true n 25 [c8, c9, c10, c11, c12, c13] = some y3 := by
        have h : DataW.trod enc Tryd.prog W 0 (fun _ => true) true n 25 (List.take (Tryd.prog.cellsOf 25) (List.drop 8 [c0, c1, c2, c3, c4, c5, c6, c7, c8, c9, c10, c11, c12, c13, c14])) = some y3 := hfld 3 _ rfl
        rw [k1] at h
        exact h
      have f4 : DataW.trod enc Tryd.prog W 0 (fun _ => true) true n 27 [c14] = some y4 := by
        have h : DataW.trod enc Tryd.prog W 0 (fun _ => true) true n 27 (List.take (Tryd.prog.cellsOf 27) (List.drop 14 [c0, c1, c2, c3, c4, c5, c6, c7, c8, c9, c10, c11, c12, c13, c14])) = some y4 := hfld 4 _ rfl
        rw [k2] at h
        exact h
      obtain ⟨z0, e0, _, w0⟩ := DataW.trod_int Tryd.underlying23 f0
      obtain ⟨a0, rfl, l0⟩ := u16_wf w0
      obtain ⟨m1, e1, _⟩ := mac_of_trod f1
      obtain ⟨z2, e2, _, w2⟩ := DataW.trod_int Tryd.underlying27 f2
      obtain ⟨a2, rfl, l2⟩ := u32_wf w2
      obtain ⟨m3, e3, _⟩ := mac_of_trod f3
      obtain ⟨z4, e4, _, w4⟩ := DataW.trod_int Tryd.underlying27 f4
      obtain ⟨a4, rfl, l4⟩ := u32_wf w4
      simp only [List.cons.injEq, and_true] at e0 e1 e2 e3 e4
      subst e0
      obtain ⟨rfl, rfl, rfl, rfl, rfl, rfl⟩ := e1
      subst e2
      obtain ⟨rfl, rfl, rfl, rfl, rfl, rfl⟩ := e3
      subst e4
      exact ⟨⟨a0, m1, a2, m3, a4⟩, rfl, ⟨l0, l2, l4⟩⟩
end
end Go.Proofs.YthinmonahnbkdaaDoor
