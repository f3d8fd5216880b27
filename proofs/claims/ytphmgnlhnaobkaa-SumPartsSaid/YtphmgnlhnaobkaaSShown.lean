/-
  What is proved: 'shown' of the laws of layer 2 answers true, and leaves all older memory as it was; Sum and Valid of one part, and of two.
  Conditions: fewer than 2^40 bytes.
-/
import Derived.Test.YtphmgnlhnaobkaaSum
namespace Go.Proofs.Ytphmgnlhnaobkaa
open Go.RowKit

theorem Rd.alloc {w : World} {v : Value} {bs : List UInt8} (h : Rd w v bs) (o : Obj) : Rd (w.alloc o) v bs := h.below ((Below.refl _ _).alloc (Nat.le_refl _) o)
theorem RdL.nil (w : World) : RdL w (.slice none 0 0) [] := ⟨none, 0, rfl, Nat.le_refl _, fun h => absurd h (by simp)⟩
theorem RdL.one {w : World} {v : Value} {bs : List UInt8} (h : Rd w v bs) : RdL (w.alloc (.cells #[v] 32)) (.slice (some ⟨w.heap.size, 0, none⟩) 1 1) [bs] :=
  ⟨_, 1, rfl, Nat.le_refl _, fun _ => ⟨_, 0, rfl, fun i b hb => by
    match i, hb with
    | 0, hb =>
      obtain rfl := Option.some.inj hb
      exact ⟨v, by rw [World.cell?_alloc_at _ _ _ _ rfl]; rfl, h.alloc _⟩⟩⟩
theorem RdL.two {w : World} {v v2 : Value} {bs bs2 : List UInt8} (h : Rd w v bs) (h2 : Rd w v2 bs2) : RdL (w.alloc (.cells #[v, v2] 32)) (.slice (some ⟨w.heap.size, 0, none⟩) 2 2) [bs, bs2] :=
  ⟨_, 2, rfl, Nat.le_refl _, fun _ => ⟨_, 0, rfl, fun i b hb => by
    match i, hb with
    | 0, hb =>
      obtain rfl := Option.some.inj hb
      exact ⟨v, by rw [World.cell?_alloc_at _ _ _ _ rfl]; rfl, h.alloc _⟩
    | 1, hb =>
      obtain rfl := Option.some.inj hb
      exact ⟨v2, by rw [World.cell?_alloc_at _ _ _ _ rfl]; rfl, h2.alloc _⟩⟩⟩
theorem Sum_one {w : World} {g : Nat} (hg : g = w.heap.size) {v : Value} {bs : List UInt8} (h : Rd w v bs) (hn : bs.length ≤ 1099511627776) :
    Calls Try.prog 13 #[.slice (some ⟨g, 0, none⟩) 1 1] (w.alloc (.cells #[v] 32)) fun e w' => e = .returned (.int .u16 ((ck bs : Nat) : Int)) ∧ w.alloc (.cells #[v] 32) = w' := by
  subst hg
  have h1 := Sum_any _ [bs] _ (RdL.one h) (by simpa using hn) (by simp)
  simpa using h1
theorem Sum_two {w : World} {g : Nat} (hg : g = w.heap.size) {v v2 : Value} {bs bs2 : List UInt8} (h : Rd w v bs) (h2 : Rd w v2 bs2) (hn : bs.length + bs2.length ≤ 1099511627776) :
    Calls Try.prog 13 #[.slice (some ⟨g, 0, none⟩) 2 2] (w.alloc (.cells #[v, v2] 32)) fun e w' => e = .returned (.int .u16 ((ck (bs ++ bs2) : Nat) : Int)) ∧ w.alloc (.cells #[v, v2] 32) = w' := by
  subst hg
  have h1 := Sum_any _ [bs, bs2] _ (RdL.two h h2) (by simpa using hn) (by simp)
  simpa using h1
theorem Valid_one {w : World} {g : Nat} (hg : g = w.heap.size) {v : Value} {bs : List UInt8} (h : Rd w v bs) (hn : bs.length ≤ 1099511627776) :
    Calls Try.prog 14 #[.slice (some ⟨g, 0, none⟩) 1 1] (w.alloc (.cells #[v] 32)) fun e w' => e = .returned (.bool (decide (ck bs = 0))) ∧ w.alloc (.cells #[v] 32) = w' := by
  subst hg
  have h1 := Valid_any _ [bs] _ (RdL.one h) (by simpa using hn) (by simp)
  simpa using h1
theorem Valid_two {w : World} {g : Nat} (hg : g = w.heap.size) {v v2 : Value} {bs bs2 : List UInt8} (h : Rd w v bs) (h2 : Rd w v2 bs2) (hn : bs.length + bs2.length ≤ 1099511627776) :
    Calls Try.prog 14 #[.slice (some ⟨g, 0, none⟩) 2 2] (w.alloc (.cells #[v, v2] 32)) fun e w' => e = .returned (.bool (decide (ck (bs ++ bs2) = 0))) ∧ w.alloc (.cells #[v, v2] 32) = w' := by
  subst hg
  have h1 := Valid_any _ [bs, bs2] _ (RdL.two h h2) (by simpa using hn) (by simp)
  simpa using h1

set_option maxRecDepth 100000 in
set_option maxHeartbeats 4000000 in
theorem shown_any (w : World) : Calls Try.prog 10 #[] w fun e w' => e = .returned (.bool true) ∧ Below w.heap.size w w' := by
  have hb0 : Below w.heap.size w (w.alloc (bytesObj [0, 1, 242, 3, 244, 245, 246, 247])) := (Below.refl _ _).alloc (Nat.le_refl _) _
  have hr0 : Rd (w.alloc (bytesObj [0, 1, 242, 3, 244, 245, 246, 247])) (.slice (some ⟨w.heap.size, 0, none⟩) 8 8) [0, 1, 242, 3, 244, 245, 246, 247] := Rd.of_obj (bytesObj_new w _) (Nat.le_refl _)
  have B0 := Lib.hid hb0
  have R0 := Lib.hid hr0
  clear hb0 hr0
  go_enter Try.func10, Try.ntmps10
  go_wp2_with fail
  refine (Pseudo_any 167772161 167772162 17 300 (by omega) _).mono ?_
  rintro e w1 ⟨rfl, hw1⟩
  have hb1 : Below w.heap.size w w1 := by subst hw1; exact B0.out.alloc B0.out.size _
  have hr1 : Rd w1 (.slice (some ⟨w.heap.size, 0, none⟩) 8 8) [0, 1, 242, 3, 244, 245, 246, 247] := by subst hw1; exact R0.out.alloc _
  have hp1 : Rd w1 (.slice (some ⟨(w.alloc (bytesObj [0, 1, 242, 3, 244, 245, 246, 247])).heap.size, 0, none⟩) 12 12) (psd 167772161 167772162 17 300) := by subst hw1; exact Rd.of_obj (bytesObj_new _ _) (Nat.le_refl _)
  rw [World.size_alloc] at hp1
  have B1 := Lib.hid hb1
  have R1 := Lib.hid hr1
  have P1 := Lib.hid hp1
  clear hb1 hr1 hp1 hw1 B0 R0
  have hc1 : ck [0, 1, 242, 3, 244, 245, 246, 247] = 8717 := by decide
  have hc2 : decide (ck ([0, 1, 242, 3, 244, 245, 246, 247] ++ [34, 13]) = 0) = true := by decide
  have hc3 : decide (ck [0, 1, 242, 3, 244, 245, 246, 247] = 0) = false := by decide
  have hc4 : ck [] = 65535 := by decide
  have hc5 : (65535 - fold ((65535 - 8717) + (65535 - 1) + 2) : Nat) = 8716 := by decide
  have hc6 : txt (psd 167772161 167772162 17 300) = ⟨#[10, 0, 0, 1, 10, 0, 0, 2, 0, 17, 1, 44]⟩ := by decide
  go_wp2_with fail
  refine (Sum_one rfl R1.out (by simp)).mono ?_
  rintro e w2 ⟨he, hw2⟩
  rw [hc1] at he
  subst he
  have B2 := Lib.hid (show Below w.heap.size w w2 by subst hw2; exact B1.out.alloc B1.out.size _)
  have R2 := Lib.hid (show Rd w2 _ _ by subst hw2; exact R1.out.alloc _)
  have P2 := Lib.hid (show Rd w2 _ _ by subst hw2; exact P1.out.alloc _)
  clear B1 R1 P1 hw2
  go_wp2_with fail
  refine (Valid_two (w := w2.alloc (bytesObj [34, 13])) (by simp) (R2.out.alloc _) (show Rd _ (.slice (some ⟨w2.heap.size, 0, none⟩) 2 2) [34, 13] from Rd.of_obj (bytesObj_new _ [34, 13]) (Nat.le_refl _)) (by simp)).mono ?_
  rintro e w3 ⟨he, hw3⟩
  rw [hc2] at he
  subst he
  have B3 := Lib.hid (show Below w.heap.size w w3 by subst hw3; exact (B2.out.alloc B2.out.size _).alloc (by have := B2.out.size; simp; omega) _)
  have R3 := Lib.hid (show Rd w3 _ _ by subst hw3; exact (R2.out.alloc _).alloc _)
  have P3 := Lib.hid (show Rd w3 _ _ by subst hw3; exact (P2.out.alloc _).alloc _)
  clear B2 R2 P2 hw3
  go_wp2_with fail
  refine (Valid_one rfl R3.out (by simp)).mono ?_
  rintro e w4 ⟨he, hw4⟩
  rw [hc3] at he
  subst he
  have B4 := Lib.hid (show Below w.heap.size w w4 by subst hw4; exact B3.out.alloc B3.out.size _)
  have P4 := Lib.hid (show Rd w4 _ _ by subst hw4; exact P3.out.alloc _)
  clear B3 R3 P3 hw4
  go_wp2_with fail
  refine (Sum_any _ [] _ (RdL.nil _) (by simp) (by simp)).mono ?_
  rintro e w' ⟨he, rfl⟩
  rw [List.flatten_nil, hc4] at he
  subst he
  go_wp2_with fail
  refine (Update_any 8717 1 2 (by omega) (by omega) (by omega) _).mono ?_
  rintro e w' ⟨he, rfl⟩
  rw [hc5] at he
  subst he
  have hcv := convert_rd P4.out
  rw [hc6] at hcv
  go_wp2_with fail
  go_ret
  exact ⟨rfl, B4.out⟩
end Go.Proofs.Ytphmgnlhnaobkaa
