/-
  What is proved: from a contract of a law's function to the given row where the row lists errors.errorType and api.All: the general part; addresses and frames among the arguments, opened.
  Conditions: none of its own.
-/
import Derived.Test.YtifjelinojndoaaDoorOpen
import Derived.Test.YtifjelinojndoaaDoorEShown
namespace Go.Proofs.YtifjelinojndoaaDoor
open Go.ChangeShapes Go.WideShapes Go.RowKit

theorem allAt_named : Tryd.prog.globalNamed "underpass/api.All" = some 0 := by kernel_rfl
theorem all_type : (Tryd.prog.globals[0]?).map (·.type) = some 24 := by kernel_rfl
theorem mac_cells : Tryd.prog.cellsOf 24 = 6 := by kernel_rfl
theorem u8_cells : Tryd.prog.cellsOf 5 = 1 := by kernel_rfl

section
variable {H : Type} {enc : TypeId × Value → H} {W : World} {base : Nat} {sp : Nat → Bool} {held : Bool} {fuel : Nat} {x : DataW H × List MemPlace}
set_option maxRecDepth 100000 in
/-- Six cells that are read as an address. -/
theorem mac_of_trod {cs : List Value} (h : DataW.trod enc Tryd.prog W base sp held fuel 24 cs = some x) :
    ∃ m : M6, cs = [.int .u8 m.a.toNat, .int .u8 m.b.toNat, .int .u8 m.c.toNat, .int .u8 m.d.toNat, .int .u8 m.e.toNat, .int .u8 m.f.toNat] ∧
      x.1 = .agg [.lit (.int .u8 m.a.toNat), .lit (.int .u8 m.b.toNat), .lit (.int .u8 m.c.toNat), .lit (.int .u8 m.d.toNat), .lit (.int .u8 m.e.toNat), .lit (.int .u8 m.f.toNat)] := by
  obtain ⟨xs, m, rfl, rfl, hc, hl, hf⟩ := DataW.trod_array Tryd.underlying24 h
  rw [mac_cells] at hc
  rw [u8_cells] at hf
  match cs, hc with
  | [c0, c1, c2, c3, c4, c5], _ =>
    match xs, hl with
    | [y0, y1, y2, y3, y4, y5], _ =>
      obtain ⟨n0, e0, d0, w0⟩ := DataW.trod_int Tryd.underlying5 (show DataW.trod enc Tryd.prog W base sp held m 5 [c0] = some y0 from hf 0 (by omega))
      obtain ⟨n1, e1, d1, w1⟩ := DataW.trod_int Tryd.underlying5 (show DataW.trod enc Tryd.prog W base sp held m 5 [c1] = some y1 from hf 1 (by omega))
      obtain ⟨n2, e2, d2, w2⟩ := DataW.trod_int Tryd.underlying5 (show DataW.trod enc Tryd.prog W base sp held m 5 [c2] = some y2 from hf 2 (by omega))
      obtain ⟨n3, e3, d3, w3⟩ := DataW.trod_int Tryd.underlying5 (show DataW.trod enc Tryd.prog W base sp held m 5 [c3] = some y3 from hf 3 (by omega))
      obtain ⟨n4, e4, d4, w4⟩ := DataW.trod_int Tryd.underlying5 (show DataW.trod enc Tryd.prog W base sp held m 5 [c4] = some y4 from hf 4 (by omega))
      obtain ⟨n5, e5, d5, w5⟩ := DataW.trod_int Tryd.underlying5 (show DataW.trod enc Tryd.prog W base sp held m 5 [c5] = some y5 from hf 5 (by omega))
      obtain ⟨a0, rfl⟩ := u8_wf w0
      obtain ⟨a1, rfl⟩ := u8_wf w1
      obtain ⟨a2, rfl⟩ := u8_wf w2
      obtain ⟨a3, rfl⟩ := u8_wf w3
      obtain ⟨a4, rfl⟩ := u8_wf w4
      obtain ⟨a5, rfl⟩ := u8_wf w5
      subst d0 d1 d2 d3 d4 d5
      exact ⟨⟨a0, a1, a2, a3, a4, a5⟩, by rw [(List.cons.inj e0).1, (List.cons.inj e1).1, (List.cons.inj e2).1, (List.cons.inj e3).1, (List.cons.inj e4).1, (List.cons.inj e5).1], rfl⟩
end

/-- What the rows list of the package-level variables. -/
def laidList2 : List (String × DataW Unit) := /- AllAt -/ [("errors.errorType", Rows.laid_errors_errorType), ("underpass/api.All", Rows.laid_underpass_api_All)]

theorem laid2_parts {W : World} (h : laidMetH Tryd.prog laidList2 W) : laidMet Tryd.prog [("underpass/api.All", Rows.laid_underpass_api_All)] W ∧ handlesMet Tryd.prog laidList W := h
theorem hdl_of_laid2 {W : World} (h : laidMetH Tryd.prog laidList2 W) : Hdl W := by
  have h' : laidMetH Tryd.prog laidList W := ⟨laidMet_nil _ _, (laid2_parts h).2⟩
  exact hdl_of_laid h'
theorem all_of_laid2 {W : World} (h : laidMetH Tryd.prog laidList2 W) : AllAt W := by
  obtain ⟨ps, hv, _, _⟩ := (laid2_parts h).1
  obtain ⟨g, t, cs, fuel, p, q, hg, ht, hc, htr, _, _⟩ := hv
  obtain rfl := Option.some.inj (allAt_named.symm.trans hg)
  obtain rfl := Option.some.inj (all_type.symm.trans ht)
  obtain ⟨m, e1, e2⟩ := mac_of_trod htr
  have e3 : (Rows.laid_underpass_api_All : DataW Unit) = .agg [.lit (.int .u8 m.a.toNat), .lit (.int .u8 m.b.toNat), .lit (.int .u8 m.c.toNat), .lit (.int .u8 m.d.toNat), .lit (.int .u8 m.e.toNat), .lit (.int .u8 m.f.toNat)] := e2
  unfold Rows.laid_underpass_api_All at e3
  simp only [DataW.agg.injEq, List.cons.injEq, DataW.lit.injEq, Lit.int.injEq, true_and, and_true] at e3
  obtain ⟨a0, a1, a2, a3, a4, a5⟩ := e3
  rw [← a0, ← a1, ← a2, ← a3, ← a4, ← a5] at e1
  have k : ∀ i, W.cell? ⟨0, i, none⟩ = ([Value.int .u8 255, Value.int .u8 255, Value.int .u8 255, Value.int .u8 255, Value.int .u8 255, Value.int .u8 255] : List Value)[i]? := by
    intro i
    rw [World.var?_cell allAt_named hc i, ← e1]
    simp
  exact ⟨k 0, k 1, k 2, k 3, k 4, k 5⟩

/-- A world that lays the variables. -/
noncomputable def laidWorld2 (os : Os) : World :=
  let w0 := laidWorld os
  { w0 with heap := w0.heap.modify 0 fun
      | .cells _ t frozen => .cells #[.int .u8 255, .int .u8 255, .int .u8 255, .int .u8 255, .int .u8 255, .int .u8 255] t frozen
      | o => o }
theorem laidWorld2_met (os : Os) (args : Array Value) : laidMetH Tryd.prog laidList2 ((laidWorld2 os).forCall (fun _ _ => 0) ⟨#[], args, []⟩).memory :=
  laidMetH_of_parts (laidMet_of_run' 8 (by kernel_rfl) (by kernel_rfl)) (by kernel_rfl)

section
variable {H : Type} {enc : TypeId × Value → H} {W : World}
theorem okWide_array {P : Program} {w : World} {r : Reach} {base : Nat} {t e : TypeId} {n : Nat} {v : Value} (ht : P.underlying t = some (.array n e)) (h : Value.okWide P w r base t v) : ∃ cs, v = .agg cs ∧ cs.size = P.cellsOf t := by
  simp only [Value.okWide, ht] at h
  obtain ⟨cs, h1, h2, _⟩ := h
  exact ⟨cs, h1, h2⟩
set_option maxRecDepth 100000 in
/-- An address among the arguments. -/
theorem open_mac {base : Nat} {v : Value} {d : DataW H} {ps : List MemPlace} (hv : Value.okWide Tryd.prog W .any base 24 v) (h : DataW.Trod enc Tryd.prog W 0 (fun _ => true) true 24 v d ps) :
    ∃ m : M6, v = m.val := by
  obtain ⟨cs, rfl, _⟩ := okWide_array Tryd.underlying24 hv
  obtain ⟨fuel, hf⟩ := h
  obtain ⟨m, e, _⟩ := mac_of_trod hf
  refine ⟨m, ?_⟩
  have e' : cs.toList = [.int .u8 m.a.toNat, .int .u8 m.b.toNat, .int .u8 m.c.toNat, .int .u8 m.d.toNat, .int .u8 m.e.toNat, .int .u8 m.f.toNat] := e
  unfold M6.val
  rw [Value.agg.injEq]
  exact Array.toList_inj.1 e'

theorem frm_cellsOf : Tryd.prog.cellsOf 27 = 15 := by kernel_rfl
theorem u16_wf {n : Int} (h : (Lit.int .u16 n).wf = true) : ∃ a : Nat, n = (a : Int) ∧ a < 65536 := by
  have hmin : IntKind.u16.min = 0 := by rfl
  have hmax : IntKind.u16.max = 65535 := by rfl
  simp [Lit.wf, hmin, hmax] at h
  exact ⟨n.toNat, by omega, by omega⟩
theorem i64_wf {n : Int} (h : (Lit.int .i64 n).wf = true) : -9223372036854775808 ≤ n ∧ n ≤ 9223372036854775807 := by
  have hmin : IntKind.i64.min = -9223372036854775808 := by rfl
  have hmax : IntKind.i64.max = 9223372036854775807 := by rfl
  simp [Lit.wf, hmin, hmax] at h
  omega
/-- The slice of bytes in a cell. -/
theorem open_bytes_in {fuel : Nat} {v : Value} {x : DataW H × List MemPlace} (h : DataW.trod enc Tryd.prog W 0 (fun _ => true) true fuel 22 [v] = some x) :
    ∃ (A : Option Addr) (c : Nat) (bs : List UInt8), v = .slice A bs.length c ∧ c ≤ 9223372036854775807 ∧ Rd W (.slice A bs.length c) bs := by
  rcases open_ints Tryd.underlying22 Tryd.underlying5 u8_cells h with ⟨hcs, _⟩ | ⟨a, len, cap, zs, hcs, _, hle, hmax, hall, _, hcell, hwf⟩
  · obtain rfl : v = .slice none 0 0 := by simpa using hcs
    exact ⟨none, 0, [], rfl, by omega, Rd.nil W⟩
  · obtain rfl : v = .slice (some a) len cap := by simpa using hcs
    simp only [if_true] at hall
    obtain ⟨bs, rfl⟩ := bytes_of_ints zs hwf
    simp only [List.length_map] at hall hcell
    have hlen : (bs.take len).length = len := by rw [List.length_take]; omega
    refine ⟨some a, cap, bs.take len, by rw [hlen], by simp only [maxLen] at hmax; omega, some a, cap, rfl, by rw [hlen]; exact hle, fun h0 => ?_⟩
    rw [hlen] at h0
    obtain ⟨b, off, rfl, hj⟩ := ints_at (w := W) (a := a) (k := .u8) (zs := bs.map fun b => (b.toNat : Int)) (by simpa using hcell) (by simp; omega)
    refine ⟨b, off, rfl, fun i u hu => ?_⟩
    rw [List.getElem?_take] at hu
    split at hu
    · have hi : i < bs.length := (List.getElem?_eq_some_iff.1 hu).1
      rw [hj i (by simpa using hi)]
      have hu' : bs[i]? = some u := hu
      simp [B8, List.getD, hu']
    · cases hu
/-- A frame as the law is handed it: any number as VLAN. -/
structure Frm.In (f : Frm) : Prop where
  ty : f.ty < 65536
  lo : -9223372036854775808 ≤ f.vlan
  hi : f.vlan ≤ 9223372036854775807
set_option maxRecDepth 100000 in
/-- A frame among the arguments. -/
theorem open_frm {base : Nat} {v : Value} {d : DataW H} {ps : List MemPlace} (hv : Value.okWide Tryd.prog W .any base 27 v) (h : DataW.Trod enc Tryd.prog W 0 (fun _ => true) true 27 v d ps) :
    ∃ (f : Frm) (A : Option Addr) (c : Nat), v = f.val (.slice A f.b.length c) ∧ f.In ∧ c ≤ 9223372036854775807 ∧ Rd W (.slice A f.b.length c) f.b := by
  obtain ⟨cs, rfl, hz⟩ := okWide_struct Tryd.underlying27 hv
  obtain ⟨fuel, hf⟩ := h
  obtain ⟨ys, n, rfl, _, _, hyl, hfld⟩ := DataW.trod_struct Tryd.underlying27 hf
  rw [frm_cellsOf] at hz
  have k1 : Tryd.prog.cellsOf 3 = 1 := by kernel_rfl
  have k2 : Tryd.prog.cellsOf 25 = 1 := by kernel_rfl
  have k3 : Tryd.prog.cellsOf 22 = 1 := by kernel_rfl
  have hy : ys.length = 5 := by rw [hyl]; rfl
  obtain ⟨l⟩ := cs
  have hz' : l.length = 15 := hz
  match l, hz' with
  | [c0, c1, c2, c3, c4, c5, c6, c7, c8, c9, c10, c11, c12, c13, c14], _ =>
    match ys, hy with
    | [y0, y1, y2, y3, y4], _ =>
      have f0 : DataW.trod enc Tryd.prog W 0 (fun _ => true) true n 24 [c0, c1, c2, c3, c4, c5] = some y0 := by
        have h : DataW.trod enc Tryd.prog W 0 (fun _ => true) true n 24 (List.take (Tryd.prog.cellsOf 24) (List.drop 0 [c0, c1, c2, c3, c4, c5, c6, c7, c8, c9, c10, c11, c12, c13, c14])) = some y0 := hfld 0 _ rfl
        rw [mac_cells] at h
        exact h
      have f1 : DataW.trod enc Tryd.prog W 0 (fun _ => true) true n 24 [c6, c7, c8, c9, c10, c11] = some y1 := by
        have h : DataW.trod enc Tryd.prog W 0 (fun _ => true) true n 24 (List.take (Tryd.prog.cellsOf 24) (List.drop 6 [c0, c1, c2, c3, c4, c5, c6, c7, c8, c9, c10, c11, c12, c13, c14])) = some y1 := hfld 1 _ rfl
        rw [mac_cells] at h
        exact h
      have f2 : DataW.trod enc Tryd.prog W 0 (fun _ => true) true n 3 [c12] = some y2 := by
        have h : DataW.trod enc Tryd.prog W 0 (fun _ => true) true n 3 (List.take (Tryd.prog.cellsOf 3) (List.drop 12 [c0, c1, c2, c3, c4, c5, c6, c7, c8, c9, c10, c11, c12, c13, c14])) = some y2 := hfld 2 _ rfl
        rw [k1] at h
        exact h
      have f3 : DataW.trod enc Tryd.prog W 0 (fun _ => true) true n 25 [c13] = some y3 := by
        have h : DataW.trod enc Tryd.prog W 0 (fun _ => true) true n 25 (List.take (Tryd.prog.cellsOf 25) (List.drop 13 [c0, c1, c2, c3, c4, c5, c6, c7, c8, c9, c10, c11, c12, c13, c14])) = some y3 := hfld 3 _ rfl
        rw [k2] at h
        exact h
      have f4 : DataW.trod enc Tryd.prog W 0 (fun _ => true) true n 22 [c14] = some y4 := by
        have h : DataW.trod enc Tryd.prog W 0 (fun _ => true) true n 22 (List.take (Tryd.prog.cellsOf 22) (List.drop 14 [c0, c1, c2, c3, c4, c5, c6, c7, c8, c9, c10, c11, c12, c13, c14])) = some y4 := hfld 4 _ rfl
        rw [k3] at h
        exact h
      obtain ⟨m0, e0, _⟩ := mac_of_trod f0
      obtain ⟨m1, e1, _⟩ := mac_of_trod f1
      obtain ⟨n2, e2, _, w2⟩ := DataW.trod_int Tryd.underlying3 f2
      obtain ⟨n3, e3, _, w3⟩ := DataW.trod_int Tryd.underlying25 f3
      obtain ⟨A, c, bs, rfl, hc, hrd⟩ := open_bytes_in f4
      obtain ⟨a3, rfl, l3⟩ := u16_wf w3
      simp only [List.cons.injEq, and_true] at e0 e1 e2 e3
      obtain ⟨rfl, rfl, rfl, rfl, rfl, rfl⟩ := e0
      obtain ⟨rfl, rfl, rfl, rfl, rfl, rfl⟩ := e1
      subst e2 e3
      exact ⟨⟨m0, m1, n2, a3, bs⟩, A, c, rfl, ⟨l3, (i64_wf w2).1, (i64_wf w2).2⟩, hc, hrd⟩
end
end Go.Proofs.YtifjelinojndoaaDoor
