/-
  What is proved: from a contract of a law's function to the given row where the row lists errors.errorType and api.All: the general part; addresses and frames among the arguments, opened.
  Conditions: none of its own.
-/
import Derived.Test.YtdmogppkambgaaaDoorOpen
import Derived.Test.YtdmogppkambgaaaDoorEShown
namespace Go.Proofs.YtdmogppkambgaaaDoor
open Go.ChangeShapes Go.WideShapes Go.RowKit

theorem u8_cells : Tryd.prog.cellsOf 5 = 1 := by kernel_rfl

section
variable {H : Type} {enc : TypeId × Value → H} {W : World} {base : Nat} {sp : Nat → Bool} {held : Bool} {fuel : Nat} {x : DataW H × List MemPlace}
end

section
variable {H : Type} {enc : TypeId × Value → H} {W : World}
theorem okWide_array {P : Program} {w : World} {r : Reach} {base : Nat} {t e : TypeId} {n : Nat} {v : Value} (ht : P.underlying t = some (.array n e)) (h : Value.okWide P w r base t v) : ∃ cs, v = .agg cs ∧ cs.size = P.cellsOf t := by
  simp only [Value.okWide, ht] at h
  obtain ⟨cs, h1, h2, _⟩ := h
  exact ⟨cs, h1, h2⟩
theorem u16_wf {n : Int} (h : (Lit.int .u16 n).wf = true) : ∃ a : Nat, n = (a : Int) ∧ a < 65536 := by
  have hmin : IntKind.u16.min = 0 := by rfl
  have hmax : IntKind.u16.max = 65535 := by rfl
  simp [Lit.wf, hmin, hmax] at h
  exact ⟨n.toNat, by omega, by omega⟩
theorem i64_wf {n : Int} (h : (Lit.int .i64 n).wf = true) : -9223372036854775808 ≤ n ∧ n ≤ 9223372036854775807 := by
  have hmin : IntKind.i64.min = -9223372036854775808 := by rfl
  have hmax : IntKind.i64.max = 9223372036854775807 := by rfl
  simp [Lit.wf, hmin, hmax] at h
  omega
/-- The slice of bytes in a cell. -/
theorem open_bytes_in {fuel : Nat} {v : Value} {x : DataW H × List MemPlace} (h : DataW.trod enc Tryd.prog W 0 (fun _ => true) true fuel 23 [v] = some x) :
    ∃ (A : Option Addr) (c : Nat) (bs : List UInt8), v = .slice A bs.length c ∧ c ≤ 9223372036854775807 ∧ Rd W (.slice A bs.length c) bs := by
  rcases open_ints Tryd.underlying23 Tryd.underlying5 u8_cells h with ⟨hcs, _⟩ | ⟨a, len, cap, zs, hcs, _, hle, hmax, hall, _, hcell, hwf⟩
  · obtain rfl : v = .slice none 0 0 := by simpa using hcs
    exact ⟨none, 0, [], rfl, by omega, Rd.nil W⟩
  · obtain rfl : v = .slice (some a) len cap := by simpa using hcs
    simp only [if_true] at hall
    obtain ⟨bs, rfl⟩ := bytes_of_ints zs hwf
    simp only [List.length_map] at hall hcell
    have hlen : (bs.take len).length = len := by rw [List.length_take]; omega
    refine ⟨some a, cap, bs.take len, by rw [hlen], by simp only [maxLen] at hmax; omega, some a, cap, rfl, by rw [hlen]; exact hle, fun h0 => ?_⟩
    rw [hlen] at h0
    obtain ⟨b, off, rfl, hj⟩ := ints_at (w := W) (a := a) (k := .u8) (zs := bs.map fun b => (b.toNat : Int)) (by simpa using hcell) (by simp; omega)
    refine ⟨b, off, rfl, fun i u hu => ?_⟩
    rw [List.getElem?_take] at hu
    split at hu
    · have hi : i < bs.length := (List.getElem?_eq_some_iff.1 hu).1
      rw [hj i (by simpa using hi)]
      have hu' : bs[i]? = some u := hu
      simp [B8, List.getD, hu']
    · cases hu
/-- A frame as the law is handed it: any number as VLAN. -/
structure Frm.In (f : Frm) : Prop where
  ty : f.ty < 65536
  lo : -9223372036854775808 ≤ f.vlan
  hi : f.vlan ≤ 9223372036854775807
end
end Go.Proofs.YtdmogppkambgaaaDoor
