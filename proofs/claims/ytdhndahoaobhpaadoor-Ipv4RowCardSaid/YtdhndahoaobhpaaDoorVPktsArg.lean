/-
  What is proved: an argument that is a slice of IPv4 packets, opened.
  Conditions: none of its own.
-/
import Derived.Test.YtdhndahoaobhpaaDoorVLift
import Derived.Deep.Slices
namespace Go.Proofs.YtdhndahoaobhpaaDoor
open Go.ChangeShapes Go.WideShapes Go.RowKit Go.Deep

/-- The packets that a slice value holds. -/
def PktsAt (w : World) (A : Option Addr) (M : Nat) : Prop :=
  ∀ k, k < M → ∃ (g o : Nat) (p : Ip) (B : Option Addr) (c : Nat), A = some ⟨g, o, none⟩ ∧ (∀ j u, (p.row (.slice B p.b.length c)).toList[j]? = some u → w.cell? ⟨g, o + k * 10 + j, none⟩ = some u) ∧
    c ≤ 9223372036854775807 ∧ Rd w (.slice B p.b.length c) p.b ∧ p.Fit

section
variable {H : Type} {enc : TypeId × Value → H} {W : World}
set_option maxRecDepth 100000 in
theorem ip_of_trod {fuel : Nat} {cs : List Value} {x : DataW H × List MemPlace} (hz : cs.length = 10) (hf : DataW.trod enc Tryd.prog W 0 (fun _ => true) true fuel 29 cs = some x) :
    ∃ (p : Ip) (A : Option Addr) (c : Nat), cs = (p.row (.slice A p.b.length c)).toList ∧ c ≤ 9223372036854775807 ∧ Rd W (.slice A p.b.length c) p.b ∧ p.Fit := by
  obtain ⟨ys, n, _, _, _, hyl, hfld⟩ := DataW.trod_struct Tryd.underlying29 hf
  have k0 : Tryd.prog.cellsOf 5 = 1 := by kernel_rfl
  have k1 : Tryd.prog.cellsOf 25 = 1 := by kernel_rfl
  have k2 : Tryd.prog.cellsOf 4 = 1 := by kernel_rfl
  have k3 : Tryd.prog.cellsOf 3 = 1 := by kernel_rfl
  have k4 : Tryd.prog.cellsOf 27 = 1 := by kernel_rfl
  have k5 : Tryd.prog.cellsOf 24 = 1 := by kernel_rfl
  have hy : ys.length = 10 := by rw [hyl]; rfl
  match cs, hz with
  | [c0, c1, c2, c3, c4, c5, c6, c7, c8, c9], _ =>
    match ys, hy with
    | [y0, y1, y2, y3, y4, y5, y6, y7, y8, y9], _ =>
      have f0 : DataW.trod enc Tryd.prog W 0 (fun _ => true) true n 5 [c0] = some y0 := by
        have h : DataW.trod enc Tryd.prog W 0 (fun _ => true) true n 5 (List.take (Tryd.prog.cellsOf 5) (List.drop 0 [c0, c1, c2, c3, c4, c5, c6, c7, c8, c9])) = some y0 := hfld 0 _ rfl
        rw [k0] at h
        exact h
      have f1 : DataW.trod enc Tryd.prog W 0 (fun _ => true) true n 25 [c1] = some y1 := by
        have h : DataW.trod enc Tryd.prog W 0 (fun _ => true) true n 25 (List.take (Tryd.prog.cellsOf 25) (List.drop 1 [c0, c1, c2, c3, c4, c5, c6, c7, c8, c9])) = some y1 := hfld 1 _ rfl
        rw [k1] at h
        exact h
      have f2 : DataW.trod enc Tryd.prog W 0 (fun _ => true) true n 4 [c2] = some y2 := by
        have h : DataW.trod enc Tryd.prog W 0 (fun _ => true) true n 4 (List.take (Tryd.prog.cellsOf 4) (List.drop 2 [c0, c1, c2, c3, c4, c5, c6, c7, c8, c9])) = some y2 := hfld 2 _ rfl
        rw [k2] at h
        exact h
      have f3 : DataW.trod enc Tryd.prog W 0 (fun _ => true) true n 4 [c3] = some y3 := by
        have h : DataW.trod enc Tryd.prog W 0 (fun _ => true) true n 4 (List.take (Tryd.prog.cellsOf 4) (List.drop 3 [c0, c1, c2, c3, c4, c5, c6, c7, c8, c9])) = some y3 := hfld 3 _ rfl
        rw [k2] at h
        exact h
      have f4 : DataW.trod enc Tryd.prog W 0 (fun _ => true) true n 3 [c4] = some y4 := by
        have h : DataW.trod enc Tryd.prog W 0 (fun _ => true) true n 3 (List.take (Tryd.prog.cellsOf 3) (List.drop 4 [c0, c1, c2, c3, c4, c5, c6, c7, c8, c9])) = some y4 := hfld 4 _ rfl
        rw [k3] at h
        exact h
      have f5 : DataW.trod enc Tryd.prog W 0 (fun _ => true) true n 5 [c5] = some y5 := by
        have h : DataW.trod enc Tryd.prog W 0 (fun _ => true) true n 5 (List.take (Tryd.prog.cellsOf 5) (List.drop 5 [c0, c1, c2, c3, c4, c5, c6, c7, c8, c9])) = some y5 := hfld 5 _ rfl
        rw [k0] at h
        exact h
      have f6 : DataW.trod enc Tryd.prog W 0 (fun _ => true) true n 5 [c6] = some y6 := by
        have h : DataW.trod enc Tryd.prog W 0 (fun _ => true) true n 5 (List.take (Tryd.prog.cellsOf 5) (List.drop 6 [c0, c1, c2, c3, c4, c5, c6, c7, c8, c9])) = some y6 := hfld 6 _ rfl
        rw [k0] at h
        exact h
      have f7 : DataW.trod enc Tryd.prog W 0 (fun _ => true) true n 27 [c7] = some y7 := by
        have h : DataW.trod enc Tryd.prog W 0 (fun _ => true) true n 27 (List.take (Tryd.prog.cellsOf 27) (List.drop 7 [c0, c1, c2, c3, c4, c5, c6, c7, c8, c9])) = some y7 := hfld 7 _ rfl
        rw [k4] at h
        exact h
      have f8 : DataW.trod enc Tryd.prog W 0 (fun _ => true) true n 27 [c8] = some y8 := by
        have h : DataW.trod enc Tryd.prog W 0 (fun _ => true) true n 27 (List.take (Tryd.prog.cellsOf 27) (List.drop 8 [c0, c1, c2, c3, c4, c5, c6, c7, c8, c9])) = some y8 := hfld 8 _ rfl
        rw [k4] at h
        exact h
      have f9 : DataW.trod enc Tryd.prog W 0 (fun _ => true) true n 24 [c9] = some y9 := by
        have h : DataW.trod enc Tryd.prog W 0 (fun _ => true) true n 24 (List.take (Tryd.prog.cellsOf 24) (List.drop 9 [c0, c1, c2, c3, c4, c5, c6, c7, c8, c9])) = some y9 := hfld 9 _ rfl
        rw [k5] at h
        exact h
      obtain ⟨z0, e0, _, w0⟩ := DataW.trod_int Tryd.underlying5 f0
      obtain ⟨a0, rfl, l0⟩ := u8n_wf w0
      obtain ⟨z1, e1, _, w1⟩ := DataW.trod_int Tryd.underlying25 f1
      obtain ⟨a1, rfl, l1⟩ := u16_wf w1
      obtain ⟨b2, e2, _⟩ := DataW.trod_bool Tryd.underlying4 f2
      obtain ⟨b3, e3, _⟩ := DataW.trod_bool Tryd.underlying4 f3
      obtain ⟨z4, e4, _, w4⟩ := DataW.trod_int Tryd.underlying3 f4
      obtain ⟨z5, e5, _, w5⟩ := DataW.trod_int Tryd.underlying5 f5
      obtain ⟨a5, rfl, l5⟩ := u8n_wf w5
      obtain ⟨z6, e6, _, w6⟩ := DataW.trod_int Tryd.underlying5 f6
      obtain ⟨a6, rfl, l6⟩ := u8n_wf w6
      obtain ⟨z7, e7, _, w7⟩ := DataW.trod_int Tryd.underlying27 f7
      obtain ⟨a7, rfl, l7⟩ := u32_wf w7
      obtain ⟨z8, e8, _, w8⟩ := DataW.trod_int Tryd.underlying27 f8
      obtain ⟨a8, rfl, l8⟩ := u32_wf w8
      obtain ⟨A9, q9, b9, rfl, hc9, hr9⟩ := open_bytes_in f9
      simp only [List.cons.injEq, and_true] at e0 e1 e2 e3 e4 e5 e6 e7 e8
      subst e0
      subst e1
      subst e2
      subst e3
      subst e4
      subst e5
      subst e6
      subst e7
      subst e8
      exact ⟨⟨a0, a1, b2, b3, z4, a5, a6, a7, a8, b9⟩, A9, q9, rfl, hc9, hr9, ⟨l0, l1, i64_wf w4, l5, l6, l7, l8⟩⟩
set_option maxRecDepth 100000 in
theorem open_pkts {base : Nat} {v : Value} {d : DataW H} {ps : List MemPlace} (hv : Value.okWide Tryd.prog W .any base 22 v) (h : DataW.Trod enc Tryd.prog W 0 (fun _ => true) true 22 v d ps) :
    ∃ (A : Option Addr) (M c : Nat), v = .slice A M c ∧ M ≤ c ∧ c ≤ 9223372036854775807 ∧ PktsAt W A M := by
  obtain ⟨a0, len, cap, rfl⟩ := okWide_slice Tryd.underlying22 hv
  obtain ⟨fuel, hf⟩ := h
  have hC : Tryd.prog.cellsOf 29 = 10 := by kernel_rfl
  rcases open_slice Tryd.underlying22 hf with ⟨hcs, _⟩ | ⟨a, len', cap', m, n, D, Pl, hcs, _, hle, hmax, hm, _, hall⟩
  · simp [Value.cells] at hcs
    obtain ⟨rfl, rfl, rfl⟩ := hcs
    exact ⟨none, 0, 0, rfl, by omega, by omega, fun k hk => absurd hk (by omega)⟩
  · simp [Value.cells] at hcs
    obtain ⟨rfl, rfl, rfl⟩ := hcs
    simp only [if_true] at hm
    refine ⟨some a, len, cap, rfl, hle, by simp only [maxLen] at hmax; omega, fun k hk => ?_⟩
    have hspot : ∃ b off, a = ⟨b, off, none⟩ := by
      obtain ⟨cs0, hc0, _⟩ := hall 0 (by omega)
      rw [hC] at hc0
      obtain ⟨_, hl0, hat0⟩ := World.cells?_some hc0
      have h5 := hat0 0 (by omega)
      have h6 : cs0[0]? = some (cs0[0]'(by omega)) := List.getElem?_eq_getElem (by omega)
      rw [h6] at h5
      have h7 := World.cell?_spot h5
      obtain ⟨b, off, spot⟩ := a
      refine ⟨b, off, ?_⟩
      have h8 : spot = none := by simpa [Addr.add] using h7
      rw [h8]
    obtain ⟨b, off, rfl⟩ := hspot
    obtain ⟨cs, hc, ht⟩ := hall k (by omega)
    rw [hC] at hc
    obtain ⟨_, hl, hat⟩ := World.cells?_some hc
    obtain ⟨p, B, c, rfl, hc2, hrd, hfit⟩ := ip_of_trod hl ht
    refine ⟨b, off, p, B, c, rfl, fun j u hu => ?_, hc2, hrd, hfit⟩
    have hj : j < 10 := (List.getElem?_eq_some_iff.1 hu).1
    have a0 := hat j hj
    simp only [Addr.add_lit] at a0
    rw [← hu]
    simpa using a0
end
end Go.Proofs.YtdhndahoaobhpaaDoor
