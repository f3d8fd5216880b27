/-
  What is proved: from a contract of a law's function to the given row where the row lists errors.errorType and api.All: the general part; addresses and frames among the arguments, opened.
  Conditions: none of its own.
-/
import Derived.Test.YthinmonahnbkdaaDoorOpen
import Derived.Test.YthinmonahnbkdaaDoorEShown
namespace Go.Proofs.YthinmonahnbkdaaDoor
open Go.ChangeShapes Go.WideShapes Go.RowKit

theorem mac_cells : Tryd.prog.cellsOf 25 = 6 := by kernel_rfl
theorem u8_cells : Tryd.prog.cellsOf 5 = 1 := by kernel_rfl

section
variable {H : Type} {enc : TypeId × Value → H} {W : World} {base : Nat} {sp : Nat → Bool} {held : Bool} {fuel : Nat} {x : DataW H × List MemPlace}
set_option maxRecDepth 100000 in
/-- Six cells that are read as an address. -/
theorem mac_of_trod {cs : List Value} (h : DataW.trod enc Tryd.prog W base sp held fuel 25 cs = some x) :
    ∃ m : M6, cs = [.int .u8 m.a.toNat, .int .u8 m.b.toNat, .int .u8 m.c.toNat, .int .u8 m.d.toNat, .int .u8 m.e.toNat, .int .u8 m.f.toNat] ∧
      x.1 = .agg [.lit (.int .u8 m.a.toNat), .lit (.int .u8 m.b.toNat), .lit (.int .u8 m.c.toNat), .lit (.int .u8 m.d.toNat), .lit (.int .u8 m.e.toNat), .lit (.int .u8 m.f.toNat)] := by
  obtain ⟨xs, m, rfl, rfl, hc, hl, hf⟩ := DataW.trod_array Tryd.underlying25 h
  rw [mac_cells] at hc
  rw [u8_cells] at hf
  match cs, hc with
  | [c0, c1, c2, c3, c4, c5], _ =>
    match xs, hl with
    | [y0, y1, y2, y3, y4, y5], _ =>
      obtain ⟨n0, e0, d0, w0⟩ := DataW.trod_int Tryd.underlying5 (show DataW.trod enc Tryd.prog W base sp held m 5 [c0] = some y0 from hf 0 (by omega))
      obtain ⟨n1, e1, d1, w1⟩ := DataW.trod_int Tryd.underlying5 (show DataW.trod enc Tryd.prog W base sp held m 5 [c1] = some y1 from hf 1 (by omega))
      obtain ⟨n2, e2, d2, w2⟩ := DataW.trod_int Tryd.underlying5 (show DataW.trod enc Tryd.prog W base sp held m 5 [c2] = some y2 from hf 2 (by omega))
      obtain ⟨n3, e3, d3, w3⟩ := DataW.trod_int Tryd.underlying5 (show DataW.trod enc Tryd.prog W base sp held m 5 [c3] = some y3 from hf 3 (by omega))
      obtain ⟨n4, e4, d4, w4⟩ := DataW.trod_int Tryd.underlying5 (show DataW.trod enc Tryd.prog W base sp held m 5 [c4] = some y4 from hf 4 (by omega))
      obtain ⟨n5, e5, d5, w5⟩ := DataW.trod_int Tryd.underlying5 (show DataW.trod enc Tryd.prog W base sp held m 5 [c5] = some y5 from hf 5 (by omega))
      obtain ⟨a0, rfl⟩ := u8_wf w0
      obtain ⟨a1, rfl⟩ := u8_wf w1
      obtain ⟨a2, rfl⟩ := u8_wf w2
      obtain ⟨a3, rfl⟩ := u8_wf w3
      obtain ⟨a4, rfl⟩ := u8_wf w4
      obtain ⟨a5, rfl⟩ := u8_wf w5
      subst d0 d1 d2 d3 d4 d5
      exact ⟨⟨a0, a1, a2, a3, a4, a5⟩, by rw [(List.cons.inj e0).1, (List.cons.inj e1).1, (List.cons.inj e2).1, (List.cons.inj e3).1, (List.cons.inj e4).1, (List.cons.inj e5).1], rfl⟩
end

section
variable {H : Type} {enc : TypeId × Value → H} {W : World}
theorem okWide_array {P : Program} {w : World} {r : Reach} {base : Nat} {t e : TypeId} {n : Nat} {v : Value} (ht : P.underlying t = some (.array n e)) (h : Value.okWide P w r base t v) : ∃ cs, v = .agg cs ∧ cs.size = P.cellsOf t := by
  simp only [Value.okWide, ht] at h
  obtain ⟨cs, h1, h2, _⟩ := h
  exact ⟨cs, h1, h2⟩
set_option maxRecDepth 100000 in
/-- An address among the arguments. -/
theorem open_mac {base : Nat} {v : Value} {d : DataW H} {ps : List MemPlace} (hv : Value.okWide Tryd.prog W .any base 25 v) (h : DataW.Trod enc Tryd.prog W 0 (fun _ => true) true 25 v d ps) :
    ∃ m : M6, v = m.val := by
  obtain ⟨cs, rfl, _⟩ := okWide_array Tryd.underlying25 hv
  obtain ⟨fuel, hf⟩ := h
  obtain ⟨m, e, _⟩ := mac_of_trod hf
  refine ⟨m, ?_⟩
  have e' : cs.toList = [.int .u8 m.a.toNat, .int .u8 m.b.toNat, .int .u8 m.c.toNat, .int .u8 m.d.toNat, .int .u8 m.e.toNat, .int .u8 m.f.toNat] := e
  unfold M6.val
  rw [Value.agg.injEq]
  exact Array.toList_inj.1 e'

theorem u16_wf {n : Int} (h : (Lit.int .u16 n).wf = true) : ∃ a : Nat, n = (a : Int) ∧ a < 65536 := by
  have hmin : IntKind.u16.min = 0 := by rfl
  have hmax : IntKind.u16.max = 65535 := by rfl
  simp [Lit.wf, hmin, hmax] at h
  exact ⟨n.toNat, by omega, by omega⟩
theorem i64_wf {n : Int} (h : (Lit.int .i64 n).wf = true) : -9223372036854775808 ≤ n ∧ n ≤ 9223372036854775807 := by
  have hmin : IntKind.i64.min = -9223372036854775808 := by rfl
  have hmax : IntKind.i64.max = 9223372036854775807 := by rfl
  simp [Lit.wf, hmin, hmax] at h
  omega
/-- The slice of bytes in a cell. -/
theorem open_bytes_in {fuel : Nat} {v : Value} {x : DataW H × List MemPlace} (h : DataW.trod enc Tryd.prog W 0 (fun _ => true) true fuel 22 [v] = some x) :
    ∃ (A : Option Addr) (c : Nat) (bs : List UInt8), v = .slice A bs.length c ∧ c ≤ 9223372036854775807 ∧ Rd W (.slice A bs.length c) bs := by
  rcases open_ints Tryd.underlying22 Tryd.underlying5 u8_cells h with ⟨hcs, _⟩ | ⟨a, len, cap, zs, hcs, _, hle, hmax, hall, _, hcell, hwf⟩
  · obtain rfl : v = .slice none 0 0 := by simpa using hcs
    exact ⟨none, 0, [], rfl, by omega, Rd.nil W⟩
  · obtain rfl : v = .slice (some a) len cap := by simpa using hcs
    simp only [if_true] at hall
    obtain ⟨bs, rfl⟩ := bytes_of_ints zs hwf
    simp only [List.length_map] at hall hcell
    have hlen : (bs.take len).length = len := by rw [List.length_take]; omega
    refine ⟨some a, cap, bs.take len, by rw [hlen], by simp only [maxLen] at hmax; omega, some a, cap, rfl, by rw [hlen]; exact hle, fun h0 => ?_⟩
    rw [hlen] at h0
    obtain ⟨b, off, rfl, hj⟩ := ints_at (w := W) (a := a) (k := .u8) (zs := bs.map fun b => (b.toNat : Int)) (by simpa using hcell) (by simp; omega)
    refine ⟨b, off, rfl, fun i u hu => ?_⟩
    rw [List.getElem?_take] at hu
    split at hu
    · have hi : i < bs.length := (List.getElem?_eq_some_iff.1 hu).1
      rw [hj i (by simpa using hi)]
      have hu' : bs[i]? = some u := hu
      simp [B8, List.getD, hu']
    · cases hu
/-- A frame as the law is handed it: any number as VLAN. -/
structure Frm.In (f : Frm) : Prop where
  ty : f.ty < 65536
  lo : -9223372036854775808 ≤ f.vlan
  hi : f.vlan ≤ 9223372036854775807
end
end Go.Proofs.YthinmonahnbkdaaDoor
