/-
  What is proved: the reader of octets (A1) by contract, with the block that its bytes lie in: U32.
  Conditions: the reader holds fewer than 2^40 bytes.
-/
import Derived.Test.YtnjohgfhagoppaaDoorAt
namespace Go.Proofs.YtnjohgfhagoppaaDoor
open Go.RowKit

set_option maxHeartbeats 1000000 in
theorem read32_at (p : Addr) (g : Nat) (hpg : p.block ≠ g) (b0 b1 b2 b3 : UInt8) (r : List UInt8) (w : World) (h : RdrG w p g (b0 :: b1 :: b2 :: b3 :: r)) (hL : (b0 :: b1 :: b2 :: b3 :: r).length ≤ 1099511627776) :
    Calls Tryd.prog 63 #[.pointer (some p), .int .i64 4] w fun e w' => e = .returned (.tuple #[.int .u32 ((((b0.toNat : Int) * 256 + b1.toNat) * 256 + b2.toNat) * 256 + b3.toNat), .nilIface]) ∧ RdrG w' p g r ∧ ∃ v, w.setCell p v = w' := by
  obtain ⟨A, hc, hz, hr⟩ := h
  obtain ⟨o, rfl, hi⟩ := hr (by simp)
  have hcut := RdrG.cut 4 (by simp) hpg hc hz (fun _ => ⟨o, rfl, hi⟩)
  have hk : ∀ i u, (b0 :: b1 :: b2 :: b3 :: r)[i]? = some u → (w.setCell p (.slice (cutA (some ⟨g, o, none⟩) (b0 :: b1 :: b2 :: b3 :: r).length 4) ((b0 :: b1 :: b2 :: b3 :: r).length - 4) ((b0 :: b1 :: b2 :: b3 :: r).length - 4))).cell? ⟨g, o + i, none⟩ = some (B8 u) := fun i u hu => by
    rw [World.cell?_setCell_other _ _ _ _ (fun e => hpg (by rw [e]))]; exact hi i u hu
  have hc0 := hk 0 b0 rfl
  have hc1 := hk 1 b1 rfl
  have hc2 := hk 2 b2 rfl
  have hc3 := hk 3 b3 rfl
  have HT := Lib.hid (take_ok p (some ⟨g, o, none⟩) (b0 :: b1 :: b2 :: b3 :: r).length 4 w hc hz (by simp) hL)
  have HR := Lib.hid hcut
  clear hc hz hr hi hcut hL hk
  generalize hW : w.setCell p (.slice (cutA (some ⟨g, o, none⟩) (b0 :: b1 :: b2 :: b3 :: r).length 4) ((b0 :: b1 :: b2 :: b3 :: r).length - 4) ((b0 :: b1 :: b2 :: b3 :: r).length - 4)) = W at *
  have HW : Hid (∃ v, w.setCell p v = W) := ⟨_, hW⟩
  clear hW
  simp only [B8, Nat.add_zero] at hc0
  simp only [B8] at hc1 hc2 hc3
  have hb0 := b0.toNat_lt
  have hb1 := b1.toNat_lt
  have hb2 := b2.toNat_lt
  have hb3 := b3.toNat_lt
  have o0 := or_zero b0.toNat (by omega) (by omega)
  have o1 := or_shiftI ((b0.toNat : Int)) b1.toNat (by omega) (by omega) (by omega) (by omega)
  have o2 := or_shiftI (((b0.toNat : Int) * 256 + b1.toNat)) b2.toNat (by omega) (by omega) (by omega) (by omega)
  have o3 := or_shiftI ((((b0.toNat : Int) * 256 + b1.toNat) * 256 + b2.toNat)) b3.toNat (by omega) (by omega) (by omega) (by omega)
  go_enter Tryd.func63, Tryd.ntmps63
  go_wp2_with fail
  refine HT.out.mono ?_
  rintro e w' ⟨rfl, rfl⟩
  go_wp2_with fail
  refine wp_loop_rounds 5 ?_
  rw [rounds_succ]
  go_wp2_with fail
  rw [rounds_succ]
  go_wp2_with fail
  rw [rounds_succ]
  go_wp2_with fail
  rw [rounds_succ]
  go_wp2_with fail
  rw [rounds_succ]
  go_wp2_with fail
  go_ret2
  exact ⟨rfl, HR.out, HW.out⟩
theorem U32_at (p : Addr) (g : Nat) (hpg : p.block ≠ g) (b0 b1 b2 b3 : UInt8) (r : List UInt8) (w : World) (h : RdrG w p g (b0 :: b1 :: b2 :: b3 :: r)) (hL : (b0 :: b1 :: b2 :: b3 :: r).length ≤ 1099511627776) :
    Calls Tryd.prog 53 #[.pointer (some p)] w fun e w' => e = .returned (.tuple #[.int .u32 ((((b0.toNat : Int) * 256 + b1.toNat) * 256 + b2.toNat) * 256 + b3.toNat), .nilIface]) ∧ RdrG w' p g r ∧ ∃ v, w.setCell p v = w' := by
  have HT := Lib.hid (read32_at p g hpg b0 b1 b2 b3 r w h hL)
  clear h hL
  go_enter Tryd.func53, Tryd.ntmps53
  go_wp2_with fail
  refine HT.out.mono ?_
  rintro e w' ⟨rfl, hq⟩
  have HQ := Lib.hid hq
  clear hq
  go_wp2_with fail
  go_ret2
  exact ⟨rfl, HQ.out⟩
end Go.Proofs.YtnjohgfhagoppaaDoor
