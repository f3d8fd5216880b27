/-
  What is proved: ether.Frame's canBeTold and size, and Bytes where it answers an error, by contract.
  Conditions: the frame's bytes are fewer than 2^40.
-/
import Derived.Test.YtdmogppkambgaaaDoorEParse
namespace Go.Proofs.YtdmogppkambgaaaDoor
open Go.RowKit

/-- A frame that has no bytes, whatever its size. -/
def Frm.Bad (f : Frm) : Prop := f.ty < 65536 ∧ ((f.vlan = -1 ∧ f.ty = 33024) ∨ f.vlan < -1 ∨ 65535 < f.vlan)
theorem Frm.ok_or_bad (f : Frm) (h : f.ty < 65536) : f.Ok ∨ f.Bad := by
  by_cases h1 : f.vlan = -1
  · by_cases h2 : f.ty = 33024
    · exact .inr ⟨h, .inl ⟨h1, h2⟩⟩
    · exact .inl ⟨h, .inl ⟨h1, h2⟩⟩
  · by_cases h2 : 0 ≤ f.vlan ∧ f.vlan ≤ 65535
    · exact .inl ⟨h, .inr h2⟩
    · exact .inr ⟨h, .inr (by omega)⟩
/-- How many bytes stand ahead of the frame's. -/
def Frm.head (f : Frm) : Nat := if f.vlan = -1 then 14 else 18
theorem M6.bs_len (m : M6) : m.bs.length = 6 := rfl
theorem Frm.bs_len (f : Frm) : f.bs.length = f.head + f.b.length := by
  unfold Frm.bs Frm.tail Frm.head tagBs
  split <;> simp [M6.bs_len, be2] <;> omega
end Go.Proofs.YtdmogppkambgaaaDoor
