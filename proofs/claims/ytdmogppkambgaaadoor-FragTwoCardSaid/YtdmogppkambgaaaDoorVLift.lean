/-
  What is proved: an IPv4 packet among a law's arguments, opened.
  Conditions: none of its own.
-/
import Derived.Test.YtdmogppkambgaaaDoorVPkt
import Derived.Test.YtdmogppkambgaaaDoorELift
namespace Go.Proofs.YtdmogppkambgaaaDoor
open Go.ChangeShapes Go.WideShapes Go.RowKit

theorem u32_wf {n : Int} (h : (Lit.int .u32 n).wf = true) : ∃ a : Nat, n = (a : Int) ∧ a < 4294967296 := by
  have hmin : IntKind.u32.min = 0 := by rfl
  have hmax : IntKind.u32.max = 4294967295 := by rfl
  simp [Lit.wf, hmin, hmax] at h
  exact ⟨n.toNat, by omega, by omega⟩
theorem u8n_wf {n : Int} (h : (Lit.int .u8 n).wf = true) : ∃ a : Nat, n = (a : Int) ∧ a < 256 := by
  have hmin : IntKind.u8.min = 0 := by rfl
  have hmax : IntKind.u8.max = 255 := by rfl
  simp [Lit.wf, hmin, hmax] at h
  exact ⟨n.toNat, by omega, by omega⟩
/-- The packet's numbers fit their types; of its bytes nothing is said. -/
structure Ip.Fit (p : Ip) : Prop where
  tos : p.tos < 256
  id : p.id < 65536
  off : -9223372036854775808 ≤ p.off ∧ p.off ≤ 9223372036854775807
  ttl : p.ttl < 256
  proto : p.proto < 256
  src : p.src < 4294967296
  dst : p.dst < 4294967296
theorem Ip.Fit.inn {p : Ip} (h : p.Fit) (l : List UInt8) (hl : l.length ≤ 1099511627776) : ({ p with b := l } : Ip).In := ⟨h.tos, h.id, h.off, h.ttl, h.proto, h.src, h.dst, hl⟩
theorem open_ip_cellsOf : Tryd.prog.cellsOf 42 = 10 := by kernel_rfl
section
variable {H : Type} {enc : TypeId × Value → H} {W : World}
set_option maxRecDepth 100000 in
theorem open_ip {base : Nat} {v : Value} {d : DataW H} {ps : List MemPlace} (hv : Value.okWide Tryd.prog W .any base 42 v) (h : DataW.Trod enc Tryd.prog W 0 (fun _ => true) true 42 v d ps) :
    ∃ (p : Ip) (A : Option Addr) (c : Nat), v = p.val (.slice A p.b.length c) ∧ c ≤ 9223372036854775807 ∧ Rd W (.slice A p.b.length c) p.b ∧ p.Fit := by
  obtain ⟨cs, rfl, hz⟩ := okWide_struct Tryd.underlying42 hv
  obtain ⟨fuel, hf⟩ := h
  obtain ⟨ys, n, rfl, _, _, hyl, hfld⟩ := DataW.trod_struct Tryd.underlying42 hf
  rw [open_ip_cellsOf] at hz
  have k0 : Tryd.prog.cellsOf 5 = 1 := by kernel_rfl
  have k1 : Tryd.prog.cellsOf 39 = 1 := by kernel_rfl
  have k2 : Tryd.prog.cellsOf 4 = 1 := by kernel_rfl
  have k3 : Tryd.prog.cellsOf 3 = 1 := by kernel_rfl
  have k4 : Tryd.prog.cellsOf 40 = 1 := by kernel_rfl
  have k5 : Tryd.prog.cellsOf 23 = 1 := by kernel_rfl
  have hy : ys.length = 10 := by rw [hyl]; rfl
  obtain ⟨l⟩ := cs
  have hz' : l.length = 10 := hz
  match l, hz' with
  | [c0, c1, c2, c3, c4, c5, c6, c7, c8, c9], _ =>
    match ys, hy with
    | [y0, y1, y2, y3, y4, y5, y6, y7, y8, y9], _ =>
      have f0 : DataW.trod enc Tryd.prog W 0 (fun _ => true) true n 5 [c0] = some y0 := by
        have h : DataW.trod enc Tryd.prog W 0 (fun _ => true) true n 5 (List.take (Tryd.prog.cellsOf 5) (List.drop 0 [c0, c1, c2, c3, c4, c5, c6, c7, c8, c9])) = some y0 := hfld 0 _ rfl
        rw [k0] at h
        exact h
      have f1 : DataW.trod enc Tryd.prog W 0 (fun _ => true) true n 39 [c1] = some y1 := by
        have h : DataW.trod enc Tryd.prog W 0 (fun _ => true) true n 39 (List.take (Tryd.prog.cellsOf 39) (List.drop 1 [c0, c1, c2, c3, c4, c5, c6, c7, c8, c9])) = some y1 := hfld 1 _ rfl
        rw [k1] at h
        exact h
      have f2 : DataW.trod enc Tryd.prog W 0 (fun _ => true) true n 4 [c2] = some y2 := by
        have h : DataW.trod enc Tryd.prog W 0 (fun _ => true) true n 4 (List.take (Tryd.prog.cellsOf 4) (List.drop 2 [c0, c1, c2, c3, c4, c5, c6, c7, c8, c9])) = some y2 := hfld 2 _ rfl
        rw [k2] at h
        exact h
      have f3 : DataW.trod enc Tryd.prog W 0 (fun _ => true) true n 4 [c3] = some y3 := by
        have h : DataW.trod enc Tryd.prog W 0 (fun _ => true) true n 4 (List.take (Tryd.prog.cellsOf 4) (List.drop 3 [c0, c1, c2, c3, c4, c5, c6, c7, c8, c9])) = some y3 := hfld 3 _ rfl
        rw [k2] at h
        exact h
      have f4 : DataW.trod enc Tryd.prog W 0 (fun _ => true) true n 3 [c4] = some y4 := by
        have h : DataW.trod enc Tryd.prog W 0 (fun _ => true) true n 3 (List.take (Tryd.prog.cellsOf 3) (List.drop 4 [c0, c1, c2, c3, c4, c5, c6, c7, c8, c9])) = some y4 := hfld 4 _ rfl
        rw [k3] at h
        exact h
      have f5 : DataW.trod enc Tryd.prog W 0 (fun _ => true) true n 5 [c5] = some y5 := by
        have h : DataW.trod enc Tryd.prog W 0 (fun _ => true) true n 5 (List.take (Tryd.prog.cellsOf 5) (List.drop 5 [c0, c1, c2, c3, c4, c5, c6, c7, c8, c9])) = some y5 := hfld 5 _ rfl
        rw [k0] at h
        exact h
      have f6 : DataW.trod enc Tryd.prog W 0 (fun _ => true) true n 5 [c6] = some y6 := by
        have h : DataW.trod enc Tryd.prog W 0 (fun _ => true) true n 5 (List.take (Tryd.prog.cellsOf 5) (List.drop 6 [c0, c1, c2, c3, c4, c5, c6, c7, c8, c9])) = some y6 := hfld 6 _ rfl
        rw [k0] at h
        exact h
      have f7 : DataW.trod enc Tryd.prog W 0 (fun _ => true) true n 40 [c7] = some y7 := by
        have h : DataW.trod enc Tryd.prog W 0 (fun _ => true) true n 40 (List.take (Tryd.prog.cellsOf 40) (List.drop 7 [c0, c1, c2, c3, c4, c5, c6, c7, c8, c9])) = some y7 := hfld 7 _ rfl
        rw [k4] at h
        exact h
      have f8 : DataW.trod enc Tryd.prog W 0 (fun _ => true) true n 40 [c8] = some y8 := by
        have h : DataW.trod enc Tryd.prog W 0 (fun _ => true) true n 40 (List.take (Tryd.prog.cellsOf 40) (List.drop 8 [c0, c1, c2, c3, c4, c5, c6, c7, c8, c9])) = some y8 := hfld 8 _ rfl
        rw [k4] at h
        exact h
      have f9 : DataW.trod enc Tryd.prog W 0 (fun _ => true) true n 23 [c9] = some y9 := by
        have h : DataW.trod enc Tryd.prog W 0 (fun _ => true) true n 23 (List.take (Tryd.prog.cellsOf 23) (List.drop 9 [c0, c1, c2, c3, c4, c5, c6, c7, c8, c9])) = some y9 := hfld 9 _ rfl
        rw [k5] at h
        exact h
      obtain ⟨z0, e0, _, w0⟩ := DataW.trod_int Tryd.underlying5 f0
      obtain ⟨a0, rfl, l0⟩ := u8n_wf w0
      obtain ⟨z1, e1, _, w1⟩ := DataW.trod_int Tryd.underlying39 f1
      obtain ⟨a1, rfl, l1⟩ := u16_wf w1
      obtain ⟨b2, e2, _⟩ := DataW.trod_bool Tryd.underlying4 f2
      obtain ⟨b3, e3, _⟩ := DataW.trod_bool Tryd.underlying4 f3
      obtain ⟨z4, e4, _, w4⟩ := DataW.trod_int Tryd.underlying3 f4
      obtain ⟨z5, e5, _, w5⟩ := DataW.trod_int Tryd.underlying5 f5
      obtain ⟨a5, rfl, l5⟩ := u8n_wf w5
      obtain ⟨z6, e6, _, w6⟩ := DataW.trod_int Tryd.underlying5 f6
      obtain ⟨a6, rfl, l6⟩ := u8n_wf w6
      obtain ⟨z7, e7, _, w7⟩ := DataW.trod_int Tryd.underlying40 f7
      obtain ⟨a7, rfl, l7⟩ := u32_wf w7
      obtain ⟨z8, e8, _, w8⟩ := DataW.trod_int Tryd.underlying40 f8
      obtain ⟨a8, rfl, l8⟩ := u32_wf w8
      obtain ⟨A9, q9, b9, rfl, hc9, hr9⟩ := open_bytes_in f9
      simp only [List.cons.injEq, and_true] at e0 e1 e2 e3 e4 e5 e6 e7 e8
      subst e0
      subst e1
      subst e2
      subst e3
      subst e4
      subst e5
      subst e6
      subst e7
      subst e8
      exact ⟨⟨a0, a1, b2, b3, z4, a5, a6, a7, a8, b9⟩, A9, q9, rfl, hc9, hr9, ⟨l0, l1, i64_wf w4, l5, l6, l7, l8⟩⟩
end
end Go.Proofs.YtdmogppkambgaaaDoor
