/-
  What is proved: an argument that is a slice of IPv4 packets, opened.
  Conditions: none of its own.
  What is proved: an argument that is a slice of the law's steps, opened.
  Conditions: none of its own.
  What is proved: FragBounds by contract, out of those of package frag: the law returns true, and older memory is as it was.
  Conditions: those of the arguments; package frag's contracts, and those of 'shown', handed in.
  What is proved: the row and the tied card of FragBounds out of its function's contract.
  Conditions: the contract, handed in; the listed package-level variables start as the program's text lays them (the card ties them).
  What is proved: FragBounds: for any steps at times that rise there are never more than eight heaps, and none grows old; the law returns true and leaves its arguments as they were (the tied card).
  Conditions: the listed package-level variables start as the program's text lays them (the card ties them).
-/
import Derived.Test.YtfaimdopaocpkaaDoorVLift
import Derived.Deep.Slices
import Derived.Test.YtfaimdopaocpkaaDoorMFg
import Derived.Deep.DeepCutAuto
import Derived.Deep.CutBlock
import Derived.Test.YtfaimdopaocpkaaDoorCards
import Derived.Test.YtfaimdopaocpkaaDoorTie
import Derived.SevenTiedAt
import Derived.Test.YtfaimdopaocpkaaDoorMFs
namespace Go.Proofs.YtfaimdopaocpkaaDoor
open Go.ChangeShapes Go.WideShapes Go.RowKit Go.Deep

/-- The packets that a slice value holds. -/
def PktsAt (w : World) (A : Option Addr) (M : Nat) : Prop :=
  ∀ k, k < M → ∃ (g o : Nat) (p : Ip) (B : Option Addr) (c : Nat), A = some ⟨g, o, none⟩ ∧ (∀ j u, (p.row (.slice B p.b.length c)).toList[j]? = some u → w.cell? ⟨g, o + k * 10 + j, none⟩ = some u) ∧
    c ≤ 9223372036854775807 ∧ Rd w (.slice B p.b.length c) p.b ∧ p.Fit

section
variable {H : Type} {enc : TypeId × Value → H} {W : World}
set_option maxRecDepth 100000 in
theorem ip_of_trod {fuel : Nat} {cs : List Value} {x : DataW H × List MemPlace} (hz : cs.length = 10) (hf : DataW.trod enc Tryd.prog W 0 (fun _ => true) true fuel 27 cs = some x) :
    ∃ (p : Ip) (A : Option Addr) (c : Nat), cs = (p.row (.slice A p.b.length c)).toList ∧ c ≤ 9223372036854775807 ∧ Rd W (.slice A p.b.length c) p.b ∧ p.Fit := by
  obtain ⟨ys, n, _, _, _, hyl, hfld⟩ := DataW.trod_struct Tryd.underlying27 hf
  have k0 : Tryd.prog.cellsOf 5 = 1 := by kernel_rfl
  have k1 : Tryd.prog.cellsOf 22 = 1 := by kernel_rfl
  have k2 : Tryd.prog.cellsOf 4 = 1 := by kernel_rfl
  have k3 : Tryd.prog.cellsOf 3 = 1 := by kernel_rfl
  have k4 : Tryd.prog.cellsOf 24 = 1 := by kernel_rfl
  have k5 : Tryd.prog.cellsOf 25 = 1 := by kernel_rfl
  have hy : ys.length = 10 := by rw [hyl]; rfl
  match cs, hz with
  | [c0, c1, c2, c3, c4, c5, c6, c7, c8, c9], _ =>
    match ys, hy with
    | [y0, y1, y2, y3, y4, y5, y6, y7, y8, y9], _ =>
      have f0 : DataW.trod enc Tryd.prog W 0 (fun _ => true) true n 5 [c0] = some y0 := by
        have h : DataW.trod enc Tryd.prog W 0 (fun _ => true) true n 5 (List.take (Tryd.prog.cellsOf 5) (List.drop 0 [c0, c1, c2, c3, c4, c5, c6, c7, c8, c9])) = some y0 := hfld 0 _ rfl
        rw [k0] at h
        exact h
      have f1 : DataW.trod enc Tryd.prog W 0 (fun _ => true) true n 22 [c1] = some y1 := by
        have h : DataW.trod enc Tryd.prog W 0 (fun _ => true) true n 22 (List.take (Tryd.prog.cellsOf 22) (List.drop 1 [c0, c1, c2, c3, c4, c5, c6, c7, c8, c9])) = some y1 := hfld 1 _ rfl
        rw [k1] at h
        exact h
      have f2 : DataW.trod enc Tryd.prog W 0 (fun _ => true) true n 4 [c2] = some y2 := by
        have h : DataW.trod enc Tryd.prog W 0 (fun _ => true) true n 4 (List.take (Tryd.prog.cellsOf 4) (List.drop 2 [c0, c1, c2, c3, c4, c5, c6, c7, c8, c9])) = some y2 := hfld 2 _ rfl
        rw [k2] at h
        exact h
      have f3 : DataW.trod enc Tryd.prog W 0 (fun _ => true) true n 4 [c3] = some y3 := by
        have h : DataW.trod enc Tryd.prog W 0 (fun _ => true) true n 4 (List.take (Tryd.prog.cellsOf 4) (List.drop 3 [c0, c1, c2, c3, c4, c5, c6, c7, c8, c9])) = some y3 := hfld 3 _ rfl
        rw [k2] at h
        exact h
      have f4 : DataW.trod enc Tryd.prog W 0 (fun _ => true) true n 3 [c4] = some y4 := by
        have h : DataW.trod enc Tryd.prog W 0 (fun _ => true) true n 3 (List.take (Tryd.prog.cellsOf 3) (List.drop 4 [c0, c1, c2, c3, c4, c5, c6, c7, c8, c9])) = some y4 := hfld 4 _ rfl
        rw [k3] at h
        exact h
      have f5 : DataW.trod enc Tryd.prog W 0 (fun _ => true) true n 5 [c5] = some y5 := by
        have h : DataW.trod enc Tryd.prog W 0 (fun _ => true) true n 5 (List.take (Tryd.prog.cellsOf 5) (List.drop 5 [c0, c1, c2, c3, c4, c5, c6, c7, c8, c9])) = some y5 := hfld 5 _ rfl
        rw [k0] at h
        exact h
      have f6 : DataW.trod enc Tryd.prog W 0 (fun _ => true) true n 5 [c6] = some y6 := by
        have h : DataW.trod enc Tryd.prog W 0 (fun _ => true) true n 5 (List.take (Tryd.prog.cellsOf 5) (List.drop 6 [c0, c1, c2, c3, c4, c5, c6, c7, c8, c9])) = some y6 := hfld 6 _ rfl
        rw [k0] at h
        exact h
      have f7 : DataW.trod enc Tryd.prog W 0 (fun _ => true) true n 24 [c7] = some y7 := by
        have h : DataW.trod enc Tryd.prog W 0 (fun _ => true) true n 24 (List.take (Tryd.prog.cellsOf 24) (List.drop 7 [c0, c1, c2, c3, c4, c5, c6, c7, c8, c9])) = some y7 := hfld 7 _ rfl
        rw [k4] at h
        exact h
      have f8 : DataW.trod enc Tryd.prog W 0 (fun _ => true) true n 24 [c8] = some y8 := by
        have h : DataW.trod enc Tryd.prog W 0 (fun _ => true) true n 24 (List.take (Tryd.prog.cellsOf 24) (List.drop 8 [c0, c1, c2, c3, c4, c5, c6, c7, c8, c9])) = some y8 := hfld 8 _ rfl
        rw [k4] at h
        exact h
      have f9 : DataW.trod enc Tryd.prog W 0 (fun _ => true) true n 25 [c9] = some y9 := by
        have h : DataW.trod enc Tryd.prog W 0 (fun _ => true) true n 25 (List.take (Tryd.prog.cellsOf 25) (List.drop 9 [c0, c1, c2, c3, c4, c5, c6, c7, c8, c9])) = some y9 := hfld 9 _ rfl
        rw [k5] at h
        exact h
      obtain ⟨z0, e0, _, w0⟩ := DataW.trod_int Tryd.underlying5 f0
      obtain ⟨a0, rfl, l0⟩ := u8n_wf w0
      obtain ⟨z1, e1, _, w1⟩ := DataW.trod_int Tryd.underlying22 f1
      obtain ⟨a1, rfl, l1⟩ := u16_wf w1
      obtain ⟨b2, e2, _⟩ := DataW.trod_bool Tryd.underlying4 f2
      obtain ⟨b3, e3, _⟩ := DataW.trod_bool Tryd.underlying4 f3
      obtain ⟨z4, e4, _, w4⟩ := DataW.trod_int Tryd.underlying3 f4
      obtain ⟨z5, e5, _, w5⟩ := DataW.trod_int Tryd.underlying5 f5
      obtain ⟨a5, rfl, l5⟩ := u8n_wf w5
      obtain ⟨z6, e6, _, w6⟩ := DataW.trod_int Tryd.underlying5 f6
      obtain ⟨a6, rfl, l6⟩ := u8n_wf w6
      obtain ⟨z7, e7, _, w7⟩ := DataW.trod_int Tryd.underlying24 f7
      obtain ⟨a7, rfl, l7⟩ := u32_wf w7
      obtain ⟨z8, e8, _, w8⟩ := DataW.trod_int Tryd.underlying24 f8
      obtain ⟨a8, rfl, l8⟩ := u32_wf w8
      obtain ⟨A9, q9, b9, rfl, hc9, hr9⟩ := open_bytes_in f9
      simp only [List.cons.injEq, and_true] at e0 e1 e2 e3 e4 e5 e6 e7 e8
      subst e0
      subst e1
      subst e2
      subst e3
      subst e4
      subst e5
      subst e6
      subst e7
      subst e8
      exact ⟨⟨a0, a1, b2, b3, z4, a5, a6, a7, a8, b9⟩, A9, q9, rfl, hc9, hr9, ⟨l0, l1, i64_wf w4, l5, l6, l7, l8⟩⟩
set_option maxRecDepth 100000 in
theorem open_pkts {base : Nat} {v : Value} {d : DataW H} {ps : List MemPlace} (hv : Value.okWide Tryd.prog W .any base 33 v) (h : DataW.Trod enc Tryd.prog W 0 (fun _ => true) true 33 v d ps) :
    ∃ (A : Option Addr) (M c : Nat), v = .slice A M c ∧ M ≤ c ∧ c ≤ 9223372036854775807 ∧ PktsAt W A M := by
  obtain ⟨a0, len, cap, rfl⟩ := okWide_slice Tryd.underlying33 hv
  obtain ⟨fuel, hf⟩ := h
  have hC : Tryd.prog.cellsOf 27 = 10 := by kernel_rfl
  rcases open_slice Tryd.underlying33 hf with ⟨hcs, _⟩ | ⟨a, len', cap', m, n, D, Pl, hcs, _, hle, hmax, hm, _, hall⟩
  · simp [Value.cells] at hcs
    obtain ⟨rfl, rfl, rfl⟩ := hcs
    exact ⟨none, 0, 0, rfl, by omega, by omega, fun k hk => absurd hk (by omega)⟩
  · simp [Value.cells] at hcs
    obtain ⟨rfl, rfl, rfl⟩ := hcs
    simp only [if_true] at hm
    refine ⟨some a, len, cap, rfl, hle, by simp only [maxLen] at hmax; omega, fun k hk => ?_⟩
    have hspot : ∃ b off, a = ⟨b, off, none⟩ := by
      obtain ⟨cs0, hc0, _⟩ := hall 0 (by omega)
      rw [hC] at hc0
      obtain ⟨_, hl0, hat0⟩ := World.cells?_some hc0
      have h5 := hat0 0 (by omega)
      have h6 : cs0[0]? = some (cs0[0]'(by omega)) := List.getElem?_eq_getElem (by omega)
      rw [h6] at h5
      have h7 := World.cell?_spot h5
      obtain ⟨b, off, spot⟩ := a
      refine ⟨b, off, ?_⟩
      have h8 : spot = none := by simpa [Addr.add] using h7
      rw [h8]
    obtain ⟨b, off, rfl⟩ := hspot
    obtain ⟨cs, hc, ht⟩ := hall k (by omega)
    rw [hC] at hc
    obtain ⟨_, hl, hat⟩ := World.cells?_some hc
    obtain ⟨p, B, c, rfl, hc2, hrd, hfit⟩ := ip_of_trod hl ht
    refine ⟨b, off, p, B, c, rfl, fun j u hu => ?_, hc2, hrd, hfit⟩
    have hj : j < 10 := (List.getElem?_eq_some_iff.1 hu).1
    have a0 := hat j hj
    simp only [Addr.add_lit] at a0
    rw [← hu]
    simpa using a0
end
end Go.Proofs.YtfaimdopaocpkaaDoor
namespace Go.Proofs.YtfaimdopaocpkaaDoor
open Go.ChangeShapes Go.WideShapes Go.RowKit Go.Deep
section
variable {H : Type} {enc : TypeId × Value → H} {W : World}
set_option maxRecDepth 100000 in
theorem step_of_trod {fuel : Nat} {c0 c1 c2 c3 c4 c5 c6 c7 c8 c9 c10 c11 : Value} {x : DataW H × List MemPlace} (hf : DataW.trod enc Tryd.prog W 0 (fun _ => true) true fuel 55 [c0, c1, c2, c3, c4, c5, c6, c7, c8, c9, c10, c11] = some x) :
    ∃ (kd : Int) (p : Ip) (B : Option Addr) (c : Nat) (t : Int), (-9223372036854775808 ≤ kd ∧ kd ≤ 9223372036854775807) ∧ UW t ∧ p.Fit ∧ c ≤ 9223372036854775807 ∧ Rd W (.slice B p.b.length c) p.b ∧ c0 = .int .i64 kd ∧ [c1, c2, c3, c4, c5, c6, c7, c8, c9, c10] = (p.row (.slice B p.b.length c)).toList ∧ c11 = .int .u64 t := by
  obtain ⟨ys, n, _, _, _, hyl, hfld⟩ := DataW.trod_struct Tryd.underlying55 hf
  have hy : ys.length = 3 := by rw [hyl]; rfl
  match ys, hy with
  | [y0, y1, y2], _ =>
    have f0 : DataW.trod enc Tryd.prog W 0 (fun _ => true) true n 3 [c0] = some y0 := by
      have h : DataW.trod enc Tryd.prog W 0 (fun _ => true) true n 3 (List.take (Tryd.prog.cellsOf 3) (List.drop 0 [c0, c1, c2, c3, c4, c5, c6, c7, c8, c9, c10, c11])) = some y0 := hfld 0 _ rfl
      rw [show Tryd.prog.cellsOf 3 = 1 by kernel_rfl] at h
      exact h
    have f1 : DataW.trod enc Tryd.prog W 0 (fun _ => true) true n 27 [c1, c2, c3, c4, c5, c6, c7, c8, c9, c10] = some y1 := by
      have h : DataW.trod enc Tryd.prog W 0 (fun _ => true) true n 27 (List.take (Tryd.prog.cellsOf 27) (List.drop 1 [c0, c1, c2, c3, c4, c5, c6, c7, c8, c9, c10, c11])) = some y1 := hfld 1 _ rfl
      rw [show Tryd.prog.cellsOf 27 = 10 by kernel_rfl] at h
      exact h
    have f2 : DataW.trod enc Tryd.prog W 0 (fun _ => true) true n 47 [c11] = some y2 := by
      have h : DataW.trod enc Tryd.prog W 0 (fun _ => true) true n 47 (List.take (Tryd.prog.cellsOf 47) (List.drop 11 [c0, c1, c2, c3, c4, c5, c6, c7, c8, c9, c10, c11])) = some y2 := hfld 2 _ rfl
      rw [show Tryd.prog.cellsOf 47 = 1 by kernel_rfl] at h
      exact h
    obtain ⟨z0, e0, _, w0⟩ := DataW.trod_int Tryd.underlying3 f0
    obtain ⟨p, B, c, e1, hc, hr, hfit⟩ := ip_of_trod rfl f1
    obtain ⟨z2, e2, _, w2⟩ := DataW.trod_int Tryd.underlying47 f2
    obtain rfl : c0 = .int .i64 z0 := by simpa using e0
    obtain rfl : c11 = .int .u64 z2 := by simpa using e2
    exact ⟨z0, p, B, c, z2, i64_wf w0, u64_wf w2, hfit, hc, hr, rfl, e1, rfl⟩
set_option maxRecDepth 100000 in
theorem open_fsteps {base : Nat} {v : Value} {d : DataW H} {ps : List MemPlace} (hv : Value.okWide Tryd.prog W .any base 53 v) (h : DataW.Trod enc Tryd.prog W 0 (fun _ => true) true 53 v d ps) :
    ∃ (A : Option Addr) (M c : Nat), v = .slice A M c ∧ M ≤ c ∧ c ≤ 9223372036854775807 ∧ FSteps W A M := by
  obtain ⟨a0, len, cap, rfl⟩ := okWide_slice Tryd.underlying53 hv
  obtain ⟨fuel, hf⟩ := h
  have hC : Tryd.prog.cellsOf 55 = 12 := by kernel_rfl
  rcases open_slice Tryd.underlying53 hf with ⟨hcs, _⟩ | ⟨a, len', cap', m, n, D, Pl, hcs, _, hle, hmax, hm, _, hall⟩
  · simp [Value.cells] at hcs
    obtain ⟨rfl, rfl, rfl⟩ := hcs
    exact ⟨none, 0, 0, rfl, by omega, by omega, fun k hk => absurd hk (by omega)⟩
  · simp [Value.cells] at hcs
    obtain ⟨rfl, rfl, rfl⟩ := hcs
    simp only [if_true] at hm
    refine ⟨some a, len, cap, rfl, hle, by simp only [maxLen] at hmax; omega, fun k hk => ?_⟩
    have hspot : ∃ b off, a = ⟨b, off, none⟩ := by
      obtain ⟨cs0, hc0, _⟩ := hall 0 (by omega)
      rw [hC] at hc0
      obtain ⟨_, hl0, hat0⟩ := World.cells?_some hc0
      have h5 := hat0 0 (by omega)
      have h6 : cs0[0]? = some (cs0[0]'(by omega)) := List.getElem?_eq_getElem (by omega)
      rw [h6] at h5
      have h7 := World.cell?_spot h5
      obtain ⟨b, off, spot⟩ := a
      refine ⟨b, off, ?_⟩
      have h8 : spot = none := by simpa [Addr.add] using h7
      rw [h8]
    obtain ⟨b, off, rfl⟩ := hspot
    obtain ⟨cs, hc, ht⟩ := hall k (by omega)
    rw [hC] at hc
    obtain ⟨_, hl, hat⟩ := World.cells?_some hc
    match cs, hl with
    | [c0, c1, c2, c3, c4, c5, c6, c7, c8, c9, c10, c11], _ =>
      obtain ⟨kd, p, B, c, t, h0, h1, h2, h3, h4, rfl, e, rfl⟩ := step_of_trod ht
      have hA : ∀ j, j < 12 → W.cell? ⟨b, off + k * 12 + j, none⟩ = [.int .i64 kd, c1, c2, c3, c4, c5, c6, c7, c8, c9, c10, .int .u64 t][j]? := fun j hj => by
        have a0 := hat j hj
        simp only [Addr.add_lit] at a0
        simpa using a0
      refine ⟨b, off, kd, p, B, c, t, rfl, h0, h1, h2, h3, h4, hA 0 (by omega), fun j u hu => ?_, hA 11 (by omega)⟩
      rw [← e] at hu
      have hj : j < 10 := (List.getElem?_eq_some_iff.1 hu).1
      have a1 := hA (1 + j) (by omega)
      rw [← Nat.add_assoc] at a1
      rw [a1, ← hu, Nat.add_comm 1 j]
      match j, hj with
      | 0, _ | 1, _ | 2, _ | 3, _ | 4, _ | 5, _ | 6, _ | 7, _ | 8, _ | 9, _ => rfl
end
end Go.Proofs.YtfaimdopaocpkaaDoor
namespace Go.Proofs.YtfaimdopaocpkaaDoor
open Go.RowKit

theorem ip_cells_at {w : World} {g o : Nat} {p : Ip} {bv : Value} (h : ∀ j u, (p.row bv).toList[j]? = some u → w.cell? ⟨g, o + 1 + j, none⟩ = some u) :
    w.cell? ⟨g, o + 1, none⟩ = some (.int .u8 p.tos) ∧ w.cell? ⟨g, o + 2, none⟩ = some (.int .u16 p.id) ∧ w.cell? ⟨g, o + 3, none⟩ = some (.bool p.df) ∧ w.cell? ⟨g, o + 4, none⟩ = some (.bool p.mf) ∧ w.cell? ⟨g, o + 5, none⟩ = some (.int .i64 p.off) ∧
    w.cell? ⟨g, o + 6, none⟩ = some (.int .u8 p.ttl) ∧ w.cell? ⟨g, o + 7, none⟩ = some (.int .u8 p.proto) ∧ w.cell? ⟨g, o + 8, none⟩ = some (.int .u32 p.src) ∧ w.cell? ⟨g, o + 9, none⟩ = some (.int .u32 p.dst) ∧ w.cell? ⟨g, o + 10, none⟩ = some bv :=
  ⟨h 0 _ rfl, h 1 _ rfl, h 2 _ rfl, h 3 _ rfl, h 4 _ rfl, h 5 _ rfl, h 6 _ rfl, h 7 _ rfl, h 8 _ rfl, h 9 _ rfl⟩

set_option maxRecDepth 100000 in
set_option maxHeartbeats 8000000 in
theorem fragBounds_of {R : World → Nat → (Nat → Prop) → Int → List Hp → Prop} (X : FgOk R) (X0 : ∀ W, W.cell? ⟨0, 0, none⟩ = some (.iface 105 (.agg #[.pointer (some ⟨4, 35, none⟩)])) → Calls Tryd.prog 12 #[] W fun e w' => e = .returned (.bool true) ∧ Below W.heap.size W w')
    (x0 : Int) (A : Option Addr) (M c : Nat) (w : World) (hg : w.cell? ⟨0, 0, none⟩ = some (.iface 105 (.agg #[.pointer (some ⟨4, 35, none⟩)]))) (hx : UW x0) (hMc : M ≤ c) (hc : c ≤ 9223372036854775807) (hS : FSteps w A M) :
    Calls Tryd.prog 6 #[.int .u64 x0, .slice A M c] w fun e w' => e = .returned (.bool true) ∧ Below w.heap.size w w' := by
  have XX := Lib.hid X
  have X0 := Lib.hid (X0 w hg)
  have HG := Lib.hid hg
  have HS := Lib.hid hS
  obtain ⟨tm, htm⟩ : ∃ tm, x0 % 51 = tm := ⟨_, rfl⟩
  have htd : x0.tmod 51 = tm := by rw [Int.tmod_eq_emod_of_nonneg hx.1, htm]
  have h51 : 0 ≤ tm ∧ tm ≤ 50 := by omega
  have HN := Lib.hid (fun W (h : Below w.heap.size w W) => Fx.new X h (tm := tm) (by unfold UW; omega))
  have hM : M ≤ 9223372036854775807 := by omega
  clear hS hMc hc hg htm hx X
  go_enter Tryd.func6, Tryd.ntmps6
  go_upto_block 0 with (first
    | (go_at_call 12; refine X0.out.mono ?_; rintro e w1 ⟨rfl, hB⟩; (have B1 := Lib.hid hB); clear hB)
    | (go_at_call 18; refine (HN.out _ B1.out).mono ?_; rintro e w2 ⟨r, rfl, hC⟩; (have C0 := Lib.hid hC); clear hC))
  clear B1 X0 HN
  go_cut [7, 8] (fun s7 s8 wx => ∃ (i : Nat) (t : Int) (S : List Hp), s7 = .int .u64 t ∧ i ≤ 60 ∧ 0 ≤ t ∧ t ≤ 19 * i ∧ Fx R w (fun _ => False) wx r tm S ∧ ∀ h ∈ S, h.t ≤ t)
  case first =>
    go_wp2_with fail
    go_loopw [7, 8] (fun s7 s8 wr => ∃ (i : Nat) (t : Int) (S : List Hp), s7 = .int .u64 t ∧ s8 = .int .i64 (i : Int) ∧ i ≤ M ∧ i ≤ 60 ∧ 0 ≤ t ∧ t ≤ 19 * i ∧ Fx R w (fun _ => False) wr r tm S ∧ ∀ h ∈ S, h.t ≤ t) (fun _ s8 _ => M - (intOf s8).toNat)
    case atStart => exact ⟨0, 0, [], rfl, rfl, Nat.zero_le _, by omega, by omega, by omega, C0.out, fun h hh => by cases hh⟩
    case round =>
      obtain ⟨i, t, S, rfl, rfl, hi, hi6, ht0, ht1, hC, hbg⟩ := hrel
      have HC := Lib.hid hC
      have Hbg := Lib.hid hbg
      clear hC hbg C0
      by_cases hlt : i < M
      · have q1 : decide ((i : Int) < (M : Int)) = true := decide_eq_true (by omega)
        by_cases h3 : i < 60
        · have q2 : decide ((i : Int) < 60) = true := decide_eq_true (by omega)
          obtain ⟨g1, o1, kd, p, B1, c1, tn, rfl, hkd, htn, hfit, hc1, hrd, d0, dp, d11⟩ := HS.out i hlt
          have d0 := (HC.out.base.cell (World.block_lt_of_cell? w _ d0)).trans d0
          have d11 := (HC.out.base.cell (World.block_lt_of_cell? w _ d11)).trans d11
          have hrd := hrd.below HC.out.base
          have dp : ∀ j u, (p.row (.slice B1 p.b.length c1)).toList[j]? = some u → wr.cell? ⟨g1, o1 + i * 12 + 1 + j, none⟩ = some u := fun j u hu => (HC.out.base.cell (World.block_lt_of_cell? w _ (dp j u hu))).trans (dp j u hu)
          obtain ⟨tr, htr⟩ : ∃ tr, tn % 20 = tr := ⟨_, rfl⟩
          have htd2 : tn.tmod 20 = tr := by rw [Int.tmod_eq_emod_of_nonneg htn.1, htr]
          have htr2 : 0 ≤ tr ∧ tr ≤ 19 := by omega
          have qw : IntKind.u64.wrap (t + tr) = t + tr := by rw [IntKind.wrap_u64]; omega
          have hU := HC.out.un XX.out
          have hn8 := hU.2
          obtain ⟨n, hn⟩ : ∃ n, S.length = n := ⟨_, rfl⟩
          have XL := Lib.hid (HC.out.len XX.out)
          rw [hn] at XL hn8
          have Hn := Lib.hid hn
          have Hrd := Lib.hid hrd
          have Hfit := Lib.hid hfit
          have Hdp := Lib.hid (ip_cells_at dp)
          clear htr htn hkd hrd hfit dp hn
          by_cases hk2 : kd = 2
          · subst hk2
            have XT := Lib.hid (HC.out.tick XX.out (now := t + tr) (by unfold UW; omega))
            go_upto_region 14 with (first
              | (go_at_call 20; (with_reducible refine XL.out.mono ?_); rintro e w4 ⟨rfl, hw4⟩; subst w4)
              | (go_at_call 22; (with_reducible refine XT.out.mono ?_); rintro e w5 ⟨S5, n5, hT, rfl, hC, _⟩; (have T5 := Lib.hid hT); (have C5 := Lib.hid hC); clear hC hT))
            clear d0 d11 XL XT
            have hl5 := T5.out.len
            rw [Hn.out] at hl5
            obtain ⟨m, hm⟩ : ∃ m, S5.length = m := ⟨_, rfl⟩
            have XL := Lib.hid (C5.out.len XX.out)
            rw [hm] at hl5 XL
            have qs : IntKind.i64.wrap ((n : Int) - (n5 : Int)) = (m : Int) := by rw [IntKind.wrap_i64]; omega
            have q0 : decide ((n5 : Int) < 0) = false := decide_eq_false (by omega)
            have qe : ((m : Int) != (m : Int)) = false := by simp
            clear hl5 hm
            go_wp2_with (go_at_call 20; (with_reducible refine XL.out.mono ?_); rintro e w6 ⟨rfl, hw6⟩; subst w6)
            exact ⟨⟨i + 1, t + tr, S5, rfl, by simp, by omega, by omega, by omega, by omega, C5.out, fun h hh => by have := Hbg.out h (T5.out.mem hh).1; omega⟩, by simp [intOf]; omega⟩
          · have qk : (kd == 2) = false := by simp [hk2]
            have XF := Lib.hid (fun W (h : Below wr.heap.size wr W) => few2_any p B1 c1 W (Hrd.out.below h) hc1)
            unfold FewTold Ip.val Ip.row at XF
            obtain ⟨b0, b1, b2, b3, b4, b5, b6, b7, b8, b9⟩ := Hdp.out
            have hfl : p.few.b.length ≤ 2000 := by show (p.b.take 2000).length ≤ 2000; rw [List.length_take]; omega
            have XT : Hid (∀ (W : World) (g' c' : Nat), Below wr.heap.size wr W → c' ≤ 9223372036854775807 → Rd W (.slice (some ⟨g', 0, none⟩) p.few.b.length c') p.few.b → wr.heap.size ≤ g' → Calls Tryd.prog 19 #[.pointer (some ⟨r, 0, none⟩), .agg #[.int .u8 p.tos, .int .u16 p.id, .bool p.df, .bool p.mf, .int .i64 p.off, .int .u8 p.ttl, .int .u8 p.proto, .int .u32 p.src, .int .u32 p.dst, .slice (some ⟨g', 0, none⟩) p.few.b.length c'], .int .u64 (t + tr)] W fun e w' =>
              ∃ S' o n b, TakeR S p.few (t + tr) S' o n b ∧ TakeVal o n b e w' ∧ Fx R w (fun _ => False) w' r tm S' ∧ ∀ k, False → w'.heap[k]? = W.heap[k]?) :=
              Lib.hid (fun W g' c' hb hcc hr hg => HC.out.takeN XX.out hb (p := p.few) (Ip.few_in Hfit.out) hfl (by unfold UW; omega) hcc hr (fun _ a ha => by cases ha; exact hg))
            clear hk2 hfl
            go_upto_region 16 with (go_at_call 20; (with_reducible refine XL.out.mono ?_); rintro e w4 ⟨rfl, hw4⟩; subst w4)
            clear XL d0 d11
            go_upto_region 17 with (first
              | (go_at_call 13; (with_reducible refine (XF.out _ (Below.refl _ _)).mono ?_); rintro e w5 ⟨g5, c5, rfl, hr5, hg5, hB5, hcc5⟩; (have B5 := Lib.hid hB5); (have XT5 := Lib.hid (XT.out _ g5 c5 hB5 hcc5 hr5 hg5)); clear hr5 hB5)
              | (go_at_call 19; (with_reducible refine XT5.out.mono ?_); rintro e w6 ⟨S6, o, nc, b, hT, ⟨B6, d6, ev, rfl, hrd6, hE⟩, hC, _⟩; (have T6 := Lib.hid hT); (have C6 := Lib.hid hC); (have E6 := Lib.hid hE); clear hT hC hE hrd6)
              | (refine wpList_store_row rfl 27 (.tmp 11) (.tmp 71) rfl w6.heap.size #[.int .u8 (o.getD noIp).tos, .int .u16 (o.getD noIp).id, .bool (o.getD noIp).df, .bool (o.getD noIp).mf, .int .i64 (o.getD noIp).off, .int .u8 (o.getD noIp).ttl, .int .u8 (o.getD noIp).proto, .int .u32 (o.getD noIp).src, .int .u32 (o.getD noIp).dst, .slice B6 (o.getD noIp).b.length d6] rfl rfl 27 _ (heap_alloc_new w6 _) ipSize rfl (by simp [Value.oneCell']) ?_; rw [setRow_alloc]))
            have B7 := Lib.hid ((Below.refl w6.heap.size w6).alloc (Nat.le_refl _) (.cells #[.int .u8 (o.getD noIp).tos, .int .u16 (o.getD noIp).id, .bool (o.getD noIp).df, .bool (o.getD noIp).mf, .int .i64 (o.getD noIp).off, .int .u8 (o.getD noIp).ttl, .int .u8 (o.getD noIp).proto, .int .u32 (o.getD noIp).src, .int .u32 (o.getD noIp).dst, .slice B6 (o.getD noIp).b.length d6] 27))
            generalize w6.alloc (.cells #[.int .u8 (o.getD noIp).tos, .int .u16 (o.getD noIp).id, .bool (o.getD noIp).df, .bool (o.getD noIp).mf, .int .i64 (o.getD noIp).off, .int .u8 (o.getD noIp).ttl, .int .u8 (o.getD noIp).proto, .int .u32 (o.getD noIp).src, .int .u32 (o.getD noIp).dst, .slice B6 (o.getD noIp).b.length d6] 27) = w7 at B7 ⊢
            have C7 := Lib.hid (C6.out.to XX.out B7.out)
            have hlen := T6.out.len (HC.out.un XX.out).1 (HC.out.un XX.out).2
            rw [Hn.out] at hlen
            obtain ⟨m, hm⟩ : ∃ m, S6.length = m := ⟨_, rfl⟩
            have XL := Lib.hid (C7.out.len XX.out)
            rw [hm] at hlen XL
            obtain ⟨l1, l2, l3, l4, l5, l6⟩ := hlen
            have HFin : Hid (∀ w', Below w7.heap.size w7 w' → Fx R w (fun _ => False) w' r tm S6 ∧ ∀ h ∈ S6, h.t ≤ t + tr) := Lib.hid (fun w' hw => ⟨C7.out.to XX.out hw, T6.out.began (Int.le_refl _) (fun h hh => by have := Hbg.out h hh; omega)⟩)
            have r1 : decide ((m : Int) > 8) = false := decide_eq_false (by omega)
            have r1' : decide (8 < (m : Int)) = false := decide_eq_false (by omega)
            have r2 : decide ((n : Int) + 1 < (m : Int)) = false := decide_eq_false (by omega)
            have r3 : decide ((m : Int) < (n : Int) - 1) = false := decide_eq_false (by omega)
            have HC2 := Lib.hid C7.out.base
            clear hm XF XT XT5 C6 HC
            rcases E6.out with ⟨rfl, rfl⟩ | ⟨hnc, y, rfl, hch⟩
            · have Hl := Lib.hid (And.intro l5 l6)
              clear l4 l5 l6
              have r4 : o.isSome = true ∨ o.isSome = false := by cases o <;> simp
              rcases r4 with r4 | r4
              · have r5 : ((m : Int) == (n : Int) + 1) = false := by
                  rw [beq_eq_false_iff_ne]
                  intro e
                  have := (Hl.out.1 (by omega)).1
                  rw [this] at r4
                  cases r4
                rw [r4]
                clear r4
                obtain ⟨r6, hr6⟩ : ∃ r6, ((m : Int) == (n : Int) - 1) = r6 := ⟨_, rfl⟩
                cases r6 <;>
                · go_wp2_with (go_at_call 20; (with_reducible refine XL.out.mono ?_); rintro e w8 ⟨rfl, hw8⟩; subst w8)
                  exact ⟨⟨i + 1, t + tr, S6, rfl, by simp, by omega, by omega, by omega, by omega, HFin.out _ (Below.refl _ _)⟩, by simp [intOf]; omega⟩
              · have r5 : ((m : Int) == (n : Int) - 1) = false := by
                  rw [beq_eq_false_iff_ne]
                  intro e
                  have := (Hl.out.2 (by omega) (by cases o with | none => rfl | some q => cases r4)).1
                  omega
                rw [r4]
                clear r4
                obtain ⟨r6, hr6⟩ : ∃ r6, ((m : Int) == (n : Int) + 1) = r6 := ⟨_, rfl⟩
                cases r6 <;>
                · go_wp2_with (go_at_call 20; (with_reducible refine XL.out.mono ?_); rintro e w8 ⟨rfl, hw8⟩; subst w8)
                  exact ⟨⟨i + 1, t + tr, S6, rfl, by simp, by omega, by omega, by omega, by omega, HFin.out _ (Below.refl _ _)⟩, by simp [intOf]; omega⟩
            · have ho : o = none := by
                cases o with
                | none => rfl
                | some q => exact absurd (l4 rfl) hnc
              have r5 : ((m : Int) == (n : Int) + 1) = false := by
                rw [beq_eq_false_iff_ne]
                intro e
                exact hnc (l5 (by omega)).2
              have hGG := (HC2.out.cell (World.block_lt_of_cell? w _ HG.out)).trans HG.out
              by_cases hmn : n = m + 1
              · obtain ⟨h3', hb'⟩ := l6 hmn ho
                subst ho h3' hb'
                have r6 : ((m : Int) == (n : Int) - 1) = true := by rw [beq_iff_eq]; omega
                have XC := Lib.hid (code_any _ _ _ w7 hGG (hch.below B7.out))
                clear l4 l5 l6 hnc hmn hch hGG
                go_wp2_with (first
                  | (go_at_call 20; (with_reducible refine XL.out.mono ?_); rintro e w8 ⟨rfl, hw8⟩; subst w8)
                  | (go_at_call 23; (with_reducible refine XC.out.mono ?_); rintro e w9 ⟨rfl, hB9⟩; (have B9 := Lib.hid hB9); clear hB9))
                exact ⟨⟨i + 1, t + tr, S6, rfl, by simp, by omega, by omega, by omega, by omega, HFin.out _ B9.out⟩, by simp [intOf]; omega⟩
              · have r6 : ((m : Int) == (n : Int) - 1) = false := by
                  rw [beq_eq_false_iff_ne]
                  intro e
                  omega
                subst ho
                clear l4 l5 l6 hnc hmn hch hGG
                go_wp2_with (go_at_call 20; (with_reducible refine XL.out.mono ?_); rintro e w8 ⟨rfl, hw8⟩; subst w8)
                exact ⟨⟨i + 1, t + tr, S6, rfl, by simp, by omega, by omega, by omega, by omega, HFin.out _ (Below.refl _ _)⟩, by simp [intOf]; omega⟩
        · have q2 : decide ((i : Int) < 60) = false := decide_eq_false (by omega)
          go_wp2_with fail
          go_meet
          case rel => exact ⟨i, t, S, rfl, hi6, ht0, ht1, HC.out, Hbg.out⟩
      · have q1 : decide ((i : Int) < (M : Int)) = false := decide_eq_false (by omega)
        go_wp2_with fail
        go_meet
        case rel => exact ⟨i, t, S, rfl, hi6, ht0, ht1, HC.out, Hbg.out⟩
  case rest =>
    obtain ⟨i, t, S, rfl, hi6, ht0, ht1, hC, hbg⟩ := hcut
    have HC := Lib.hid hC
    have Hbg := Lib.hid hbg
    have qw : IntKind.u64.wrap (t + tm) = t + tm := by rw [IntKind.wrap_u64]; omega
    have XT := Lib.hid (HC.out.tick XX.out (now := t + tm) (by unfold UW; omega))
    clear hC hbg C0
    go_upto_region 21 with (go_at_call 22; (with_reducible refine XT.out.mono ?_); rintro e w5 ⟨S5, n5, hT, rfl, hC, _⟩; (have T5 := Lib.hid hT); (have C5 := Lib.hid hC); clear hC hT)
    obtain rfl := T5.out.gone Hbg.out h51.1 (Int.le_refl _)
    have XL := Lib.hid (C5.out.len XX.out)
    go_wp2_with (go_at_call 20; (with_reducible refine XL.out.mono ?_); rintro e w6 ⟨rfl, hw6⟩; subst w6)
    go_ret
    exact ⟨rfl, C5.out.base⟩
end Go.Proofs.YtfaimdopaocpkaaDoor
namespace Go.Proofs.YtfaimdopaocpkaaDoor
open Go Go.ChangeShapes Go.WideShapes Go.RowKit Go.Deep

/-- The contract. -/
def FragBoundsDoes : Prop := ∀ (n0 : Int) (A1 : Option Addr) (M1 c1 : Nat) (w : World), Hdl w → UW n0 → FSteps w A1 M1 → M1 ≤ c1 → c1 ≤ 9223372036854775807 → Calls Tryd.prog 6 #[.int .u64 n0, .slice A1 M1 c1] w fun e w' => e = .returned (.bool true) ∧ Below w.heap.size w w'

set_option maxRecDepth 100000 in
theorem fragBounds_lifted (hc : FragBoundsDoes) (os : Os) (started : os.Started) (H : Type) (enc : TypeId × Value → H) :
    ReturnsInHanded {} Tryd.checked os 6 .any (fun w args => (Rows.fragBoundsSpec.pre enc Tryd.prog Tryd.f6 [] false w args ∧ laidMetH Tryd.prog laidList w) ∧ sizedMet enc Tryd.prog Tryd.f6 (OpenSpec.ofChange Rows.fragBoundsSpec) false w args)
      (Rows.fragBoundsSpec.post enc Tryd.prog Tryd.f6 false true false false) := by
  refine returnsInHanded_of_change_and (C := Tryd.checked) (X := fun w _ => laidMetH Tryd.prog laidList w) (fun _ _ _ hh h => h.of_heap hh) ownGodebug started (by kernel_rfl) Tryd.func6
    (ChangeSpec.witness_at (enc := enc) (C := Tryd.checked) (os := os) (X := fun w _ => laidMetH Tryd.prog laidList w) false (laidWorld os) #[.int .u64 0, .slice none 0 0] 8 rfl (by kernel_rfl) (by kernel_rfl) (by kernel_rfl) (by kernel_rfl) (by kernel_rfl) (laidWorld_met os _)) ?_
  intro W base args ds gs before hval0 hW _ _ hL _
  have hval : ∀ (j : Nat) t v, Tryd.f6.params[j]? = some t → args[j]? = some v → Value.okWide Tryd.prog W .any base t v := hval0
  have hW' := hW
  obtain ⟨p, q, hA0, hV0, rfl, hfz, hnd⟩ := hW
  have hA : DataW.TrodAll enc Tryd.prog W 0 (fun _ => true) true Tryd.f6.params.toList args.toList ds p := hA0
  have hV : DataW.TrodVars enc Tryd.prog W (fun _ => true) [] gs q := hV0
  rw [Tryd.params6] at hA hval
  obtain ⟨v0, vs0, d0, ds0, p0, q0, hargs, rfl, rfl, h0, r0⟩ := trodAll_cons hA
  obtain ⟨v1, vs1, d1, ds1, p1, q1, rfl, rfl, rfl, h1, r1⟩ := trodAll_cons r0
  obtain ⟨rfl, rfl, rfl⟩ := trodAll_nil r1
  obtain rfl : args = #[v0, v1] := by cases args; simpa using hargs
  obtain ⟨rfl, rfl⟩ := trodVars_none hV
  obtain ⟨n0, rfl, rfl, rfl, w0⟩ := open_int Tryd.underlying47 (hval 0 47 v0 rfl rfl) h0
  obtain ⟨A1, M1, c1, rfl, a1, b1, e1⟩ := open_fsteps (hval 1 53 v1 rfl rfl) h1
  refine (hc n0 A1 M1 c1 W (hdl_of_laid hL) (u64_wf w0) e1 a1 b1).mono fun e W' ⟨he, hb⟩ => ?_
  subst he
  exact ⟨_, rfl, law_post rfl rfl rfl (by rw [Tryd.params6]; intro t ht; simp at ht; (try rcases ht with rfl | rfl) <;> (try subst ht) <;> exact ⟨by kernel_rfl, by rw [typesSize]; decide⟩) hW' hb⟩
theorem fragBounds_row (hc : FragBoundsDoes) : Rows.FragBoundsSaid :=
  OpenClaim.holds_of_wide 6 Tryd.f6 rfl rfl rfl rfl rfl rfl rfl ⟨rfl, rfl, rfl, rfl, rfl⟩ rfl rfl rfl rfl rfl (by kernel_rfl) Tryd.func6 (by kernel_rfl)
    (of_decide_eq_true (by kernel_rfl)) (by unfold Func.isWrapper; rw [if_neg (of_decide_eq_false (by kernel_rfl))]; exact ⟨rfl, rfl⟩)
    (fun os started H enc _ => fragBounds_lifted hc os started H enc)
theorem fragBounds_card (hrow : Rows.FragBoundsSaid) : Rows.FragBoundsCardSaid :=
  Claim7.holds_tied_plain_at .later [] [.handle] true _ true
    hrow (fun _ h => by cases h) (by kernel_rfl) (fun _ h => by cases h) fragBounds_row_tie rfl ⟨rfl, rfl⟩ (by kernel_rfl) rfl
    (fun f fn hf hfn => by
      obtain rfl : f = 6 := Option.some.inj ((show Tryd.prog.funcNamed "underpass/underpasslaw10.FragBounds" = some 6 by kernel_rfl).symm.trans hf) |>.symm
      obtain rfl : fn = Tryd.f6 := (Option.some.inj (Tryd.func6.symm.trans hfn)).symm
      exact ⟨by kernel_rfl, fun j t ht => by
        rw [Tryd.params6] at ht
        rcases j with _ | _ | j
        · have h3 : t = 47 := by simpa using ht.symm
          subst h3
          exact (show Tryd.prog.wantsStandIn 47 = false by kernel_rfl)
        · have h3 : t = 53 := by simpa using ht.symm
          subst h3
          exact (show Tryd.prog.wantsStandIn 53 = false by kernel_rfl)
        · simp at ht⟩)
    (by kernel_rfl)
end Go.Proofs.YtfaimdopaocpkaaDoor
namespace Go.Proofs.YtfaimdopaocpkaaDoor
theorem fragBounds_any : FragBoundsDoes := fun t A M c w hg ht hS hM hc => fragBounds_of frag_ok fshown_any t A M c w hg ht hM hc hS
theorem fragBounds_holds : Rows.FragBoundsCardSaid := fragBounds_card (fragBounds_row fragBounds_any)
end Go.Proofs.YtfaimdopaocpkaaDoor
