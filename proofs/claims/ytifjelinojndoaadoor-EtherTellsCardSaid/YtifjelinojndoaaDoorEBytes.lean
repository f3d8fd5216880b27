/-
  What is proved: ether.Frame's canBeTold and size, and Bytes where it answers an error, by contract.
  Conditions: the frame's bytes are fewer than 2^40.
-/
import Derived.Test.YtifjelinojndoaaDoorEParse
namespace Go.Proofs.YtifjelinojndoaaDoor
open Go.RowKit

/-- A frame that has no bytes, whatever its size. -/
def Frm.Bad (f : Frm) : Prop := f.ty < 65536 ∧ ((f.vlan = -1 ∧ f.ty = 33024) ∨ f.vlan < -1 ∨ 65535 < f.vlan)
theorem Frm.ok_or_bad (f : Frm) (h : f.ty < 65536) : f.Ok ∨ f.Bad := by
  by_cases h1 : f.vlan = -1
  · by_cases h2 : f.ty = 33024
    · exact .inr ⟨h, .inl ⟨h1, h2⟩⟩
    · exact .inl ⟨h, .inl ⟨h1, h2⟩⟩
  · by_cases h2 : 0 ≤ f.vlan ∧ f.vlan ≤ 65535
    · exact .inl ⟨h, .inr h2⟩
    · exact .inr ⟨h, .inr (by omega)⟩
/-- How many bytes stand ahead of the frame's. -/
def Frm.head (f : Frm) : Nat := if f.vlan = -1 then 14 else 18
theorem M6.bs_len (m : M6) : m.bs.length = 6 := rfl
theorem Frm.bs_len (f : Frm) : f.bs.length = f.head + f.b.length := by
  unfold Frm.bs Frm.tail Frm.head tagBs
  split <;> simp [M6.bs_len, be2] <;> omega
/-- The block that a frame is boxed in. -/
def Frm.obj (f : Frm) (bv : Value) : Obj := .cells #[.int .u8 f.dst.a.toNat, .int .u8 f.dst.b.toNat, .int .u8 f.dst.c.toNat, .int .u8 f.dst.d.toNat, .int .u8 f.dst.e.toNat, .int .u8 f.dst.f.toNat,
    .int .u8 f.src.a.toNat, .int .u8 f.src.b.toNat, .int .u8 f.src.c.toNat, .int .u8 f.src.d.toNat, .int .u8 f.src.e.toNat, .int .u8 f.src.f.toNat, .int .i64 f.vlan, .int .u16 f.ty, bv] 27

theorem canBeTold_ok (f : Frm) (hf : f.Ok) (A : Option Addr) (n c : Nat) (w : World) :
    Calls Tryd.prog 17 #[f.val (.slice A n c)] w fun e w' => e = .returned (.bool true) ∧ w.alloc (f.obj (.slice A n c)) = w' := by
  unfold Frm.val frmRow Frm.obj
  obtain ⟨dst, src, vlan, ty, b⟩ := f
  have ht : ty < 65536 := hf.ty
  rcases hf.tag with ⟨h1, h2⟩ | ⟨h1, h2⟩
  · simp only at h1 h2
    subst h1
    have h3 : ((ty : Int) != 33024) = true := by simp; omega
    clear h2 hf
    simp only
    go_enter Tryd.func17, Tryd.ntmps17
    go_wp2_with fail
    go_ret
    exact ⟨rfl, rfl⟩
  · simp only at h1 h2
    have h3 : ¬ vlan = -1 := by omega
    clear hf
    simp only
    go_enter Tryd.func17, Tryd.ntmps17
    go_wp2_with fail
    go_ret
    exact ⟨rfl, rfl⟩
theorem canBeTold_bad (f : Frm) (hf : f.Bad) (A : Option Addr) (n c : Nat) (w : World) :
    Calls Tryd.prog 17 #[f.val (.slice A n c)] w fun e w' => e = .returned (.bool false) ∧ w.alloc (f.obj (.slice A n c)) = w' := by
  unfold Frm.val frmRow Frm.obj
  obtain ⟨dst, src, vlan, ty, b⟩ := f
  obtain ⟨ht, hf⟩ := hf
  simp only at ht hf
  rcases hf with ⟨h1, h2⟩ | h1 | h1
  · subst h1 h2
    simp only
    go_enter Tryd.func17, Tryd.ntmps17
    go_wp2_with fail
    go_ret
    exact ⟨rfl, rfl⟩
  · have h3 : ¬ vlan = -1 := by omega
    have h4 : ¬ 0 ≤ vlan := by omega
    simp only
    go_enter Tryd.func17, Tryd.ntmps17
    go_wp2_with fail
    go_ret
    exact ⟨rfl, rfl⟩
  · have h3 : ¬ vlan = -1 := by omega
    have h4 : 0 ≤ vlan := by omega
    have h5 : ¬ vlan ≤ 65535 := by omega
    simp only
    go_enter Tryd.func17, Tryd.ntmps17
    go_wp2_with fail
    go_ret
    exact ⟨rfl, rfl⟩
theorem fsize_any (f : Frm) (A : Option Addr) (n c : Nat) (hn : n ≤ 1099511627776) (w : World) :
    Calls Tryd.prog 18 #[f.val (.slice A n c)] w fun e w' => e = .returned (.int .i64 ((f.head + n : Nat) : Int)) ∧ w.alloc (f.obj (.slice A n c)) = w' := by
  unfold Frm.val frmRow Frm.obj Frm.head
  obtain ⟨dst, src, vlan, ty, b⟩ := f
  simp only
  by_cases h1 : vlan = -1
  · subst h1
    have HE : Hid (((if (-1 : Int) = -1 then 14 else 18) + n : Nat) = ((14 + n : Nat) : Int)) := by simp [Hid]
    rw [HE.out]
    clear HE
    go_enter Tryd.func18, Tryd.ntmps18
    go_wp2_with fail
    go_ret
    exact ⟨by go_num, rfl⟩
  · have HE : Hid (((if vlan = -1 then 14 else 18) + n : Nat) = ((18 + n : Nat) : Int)) := by simp [Hid, h1]
    rw [HE.out]
    clear HE
    go_enter Tryd.func18, Tryd.ntmps18
    go_wp2_with fail
    go_ret
    exact ⟨by go_num, rfl⟩
end Go.Proofs.YtifjelinojndoaaDoor
