/-
  What is proved: an argument that is a slice of puts (an int, a uint32, a slice of bytes each), opened.
  Conditions: none of its own.
-/
import Derived.Test.YtmkfinpkidfohaaDoorOpen
import Derived.Deep.Slices
namespace Go.Proofs.YtmkfinpkidfohaaDoor
open Go.ChangeShapes Go.WideShapes Go.RowKit Go.Deep

/-- The puts that a slice value holds. -/
def PutsAt (w : World) (A : Option Addr) (M : Nat) : Prop :=
  ∀ k, k < M → ∃ g o kd n B bs c, A = some ⟨g, o, none⟩ ∧ w.cell? ⟨g, o + k * 3, none⟩ = some (.int .i64 kd) ∧ w.cell? ⟨g, o + k * 3 + 1, none⟩ = some (.int .u32 n) ∧ w.cell? ⟨g, o + k * 3 + 2, none⟩ = some (.slice B (List.length bs) c) ∧
    0 ≤ n ∧ n < 4294967296 ∧ c ≤ 9223372036854775807 ∧ Rd w (.slice B (List.length bs) c) bs

section
variable {H : Type} {enc : TypeId × Value → H} {W : World}
set_option maxRecDepth 100000 in
/-- A slice of bytes in a cell. -/
theorem open_bytes_cell {fuel : Nat} {v : Value} {x : DataW H × List MemPlace} (h : DataW.trod enc Tryd.prog W 0 (fun _ => true) true fuel 25 [v] = some x) :
    ∃ (A : Option Addr) (c : Nat) (bs : List UInt8), v = .slice A bs.length c ∧ c ≤ 9223372036854775807 ∧ Rd W (.slice A bs.length c) bs := by
  have hc1 : Tryd.prog.cellsOf 5 = 1 := by kernel_rfl
  rcases open_ints Tryd.underlying25 Tryd.underlying5 hc1 h with ⟨hcs, _⟩ | ⟨a, len, cap, zs, hcs, _, hle, hmax, hall, _, hcell, hwf⟩
  · obtain rfl : v = .slice none 0 0 := by simpa using hcs
    exact ⟨none, 0, [], rfl, by omega, Rd.nil W⟩
  · obtain rfl : v = .slice (some a) len cap := by simpa using hcs
    simp only [if_true] at hall
    obtain ⟨bs, rfl⟩ := bytes_of_ints zs hwf
    simp only [List.length_map] at hall hcell
    have hlen : (bs.take len).length = len := by rw [List.length_take]; omega
    refine ⟨some a, cap, bs.take len, by rw [hlen], by simp only [maxLen] at hmax; omega, some a, cap, rfl, by rw [hlen]; exact hle, fun h0 => ?_⟩
    rw [hlen] at h0
    obtain ⟨b, off, rfl, hj⟩ := ints_at (w := W) (a := a) (k := .u8) (zs := bs.map fun b => (b.toNat : Int)) (by simpa using hcell) (by simp; omega)
    refine ⟨b, off, rfl, fun i u hu => ?_⟩
    rw [List.getElem?_take] at hu
    split at hu
    · have hi : i < bs.length := (List.getElem?_eq_some_iff.1 hu).1
      rw [hj i (by simpa using hi)]
      have hu' : bs[i]? = some u := hu
      simp [B8, List.getD, hu']
    · cases hu
theorem u32_wf {n : Int} (h : (Lit.int .u32 n).wf = true) : 0 ≤ n ∧ n < 4294967296 := by
  have hmin : IntKind.u32.min = 0 := by rfl
  have hmax : IntKind.u32.max = 4294967295 := by rfl
  simp [Lit.wf, hmin, hmax] at h
  omega

set_option maxRecDepth 100000 in
theorem open_puts {base : Nat} {v : Value} {d : DataW H} {ps : List MemPlace} (hv : Value.okWide Tryd.prog W .any base 22 v) (h : DataW.Trod enc Tryd.prog W 0 (fun _ => true) true 22 v d ps) :
    ∃ (A : Option Addr) (M c : Nat), v = .slice A M c ∧ M ≤ c ∧ c ≤ 9223372036854775807 ∧ PutsAt W A M := by
  obtain ⟨a0, len, cap, rfl⟩ := okWide_slice Tryd.underlying22 hv
  obtain ⟨fuel, hf⟩ := h
  have hC : Tryd.prog.cellsOf 30 = 3 := by kernel_rfl
  rcases open_slice Tryd.underlying22 hf with ⟨hcs, _⟩ | ⟨a, len', cap', m, n, D, Pl, hcs, _, hle, hmax, hm, _, hall⟩
  · simp [Value.cells] at hcs
    obtain ⟨rfl, rfl, rfl⟩ := hcs
    exact ⟨none, 0, 0, rfl, by omega, by omega, fun k hk => absurd hk (by omega)⟩
  · simp [Value.cells] at hcs
    obtain ⟨rfl, rfl, rfl⟩ := hcs
    simp only [if_true] at hm
    refine ⟨some a, len, cap, rfl, hle, by simp only [maxLen] at hmax; omega, fun k hk => ?_⟩
    have hspot : ∃ b off, a = ⟨b, off, none⟩ := by
      obtain ⟨cs0, hc0, _⟩ := hall 0 (by omega)
      rw [hC] at hc0
      obtain ⟨_, hl0, hat0⟩ := World.cells?_some hc0
      have h5 := hat0 0 (by omega)
      have h6 : cs0[0]? = some (cs0[0]'(by omega)) := List.getElem?_eq_getElem (by omega)
      rw [h6] at h5
      have h7 := World.cell?_spot h5
      obtain ⟨b, off, spot⟩ := a
      refine ⟨b, off, ?_⟩
      have h8 : spot = none := by simpa [Addr.add] using h7
      rw [h8]
    obtain ⟨b, off, rfl⟩ := hspot
    obtain ⟨cs, hc, ht⟩ := hall k (by omega)
    rw [hC] at hc
    obtain ⟨_, hl, hat⟩ := World.cells?_some hc
    obtain ⟨ys, n', _, _, _, hyl, hfld⟩ := DataW.trod_struct Tryd.underlying30 ht
    match cs, hl with
    | [c0, c1, c2], _ =>
      have k0 : Tryd.prog.cellsOf 3 = 1 := by kernel_rfl
      have k1 : Tryd.prog.cellsOf 28 = 1 := by kernel_rfl
      have k2 : Tryd.prog.cellsOf 25 = 1 := by kernel_rfl
      have hy : ys.length = 3 := by rw [hyl]; rfl
      match ys, hy with
      | [y0, y1, y2], _ =>
        have f0 : DataW.trod enc Tryd.prog W 0 (fun _ => true) true n' 3 [c0] = some y0 := by
          have h : DataW.trod enc Tryd.prog W 0 (fun _ => true) true n' 3 (List.take (Tryd.prog.cellsOf 3) (List.drop 0 [c0, c1, c2])) = some y0 := hfld 0 _ rfl
          rw [k0] at h
          exact h
        have f1 : DataW.trod enc Tryd.prog W 0 (fun _ => true) true n' 28 [c1] = some y1 := by
          have h : DataW.trod enc Tryd.prog W 0 (fun _ => true) true n' 28 (List.take (Tryd.prog.cellsOf 28) (List.drop 1 [c0, c1, c2])) = some y1 := hfld 1 _ rfl
          rw [k1] at h
          exact h
        have f2 : DataW.trod enc Tryd.prog W 0 (fun _ => true) true n' 25 [c2] = some y2 := by
          have h : DataW.trod enc Tryd.prog W 0 (fun _ => true) true n' 25 (List.take (Tryd.prog.cellsOf 25) (List.drop 2 [c0, c1, c2])) = some y2 := hfld 2 _ rfl
          rw [k2] at h
          exact h
        obtain ⟨n0, e0, _, _⟩ := DataW.trod_int Tryd.underlying3 f0
        obtain ⟨n1, e1, _, w1⟩ := DataW.trod_int Tryd.underlying28 f1
        obtain ⟨B, c, bs, e2, hc2, hrd⟩ := open_bytes_cell f2
        have a0 := hat 0 (by omega)
        have a1 := hat 1 (by omega)
        have a2 := hat 2 (by omega)
        simp only [Addr.add_lit] at a0 a1 a2
        have e0' : c0 = .int .i64 n0 := by simpa using e0
        have e1' : c1 = .int .u32 n1 := by simpa using e1
        subst e0' e1' e2
        have hw := u32_wf w1
        exact ⟨b, off, n0, n1, B, bs, c, rfl, by simpa using a0, by simpa using a1, by simpa using a2, hw.1, hw.2, hc2, hrd⟩
end
end Go.Proofs.YtmkfinpkidfohaaDoor
