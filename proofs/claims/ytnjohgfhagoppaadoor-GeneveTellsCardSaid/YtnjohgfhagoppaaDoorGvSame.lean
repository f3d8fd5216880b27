/-
  What is proved: the document's Same of two rows of options that hold the same answers true; 'some', 'few' of the laws of layer 12.
  Conditions: none of its own.
-/
import Derived.Test.YtnjohgfhagoppaaDoorGvDec
import Derived.BigQuiet
import Derived.Deep.QuietTactic
namespace Go.Proofs.YtnjohgfhagoppaaDoor
open Go.RowKit

theorem gbelow_drawn {n k : Nat} {w W : World} (h : Below n w W) : Below n w (W.drewN k) := ⟨h.os, h.tape, h.output, h.size, h.block⟩
set_option maxHeartbeats 4000000 in
theorem gsame_any (A B : Option Addr) (l : List Op) (c d : Nat) (w : World) (h : OpsAt w A l) (k : OpsAt w B l) (hL : l.length ≤ 1000000) :
    Calls Tryd.prog 23 #[.slice A l.length c, .slice B l.length d] w fun e w' => e = .returned (.bool true) ∧ Below w.heap.size w w' := by
  have H := Lib.hid h
  have K := Lib.hid k
  have HL := Lib.hid hL
  clear h k hL
  go_enter Tryd.func23, Tryd.ntmps23
  go_wp2_with fail
  go_loopw [5] (fun s5 wr => ∃ k : Nat, s5 = .int .i64 (k : Int) ∧ k ≤ l.length ∧ Below w.heap.size w wr) (fun s5 _ => l.length - (intOf s5).toNat)
  case atStart => exact ⟨0, rfl, Nat.zero_le _, Below.refl _ _⟩
  case round =>
    obtain ⟨k, rfl, hk, hB⟩ := hrel
    have HB := Lib.hid hB
    clear hB
    by_cases hlt : k < l.length
    · have q1 : decide ((k : Int) < (l.length : Int)) = true := decide_eq_true (by omega)
      obtain ⟨x, hx⟩ : ∃ x, l[k]? = some x := ⟨l[k], List.getElem?_eq_getElem hlt⟩
      obtain ⟨g, o, A2, ac, rfl, ha, _, hra⟩ := (H.out.below HB.out) k x hx
      obtain ⟨g2, o2, B2, bc, rfl, hb, _, hrb⟩ := (K.out.below HB.out) k x hx
      obtain ⟨c0, c1, c2⟩ := ha
      obtain ⟨d0, d1, d2⟩ := hb
      have v1 : ∀ n, _ := fun n => convert_rd (hra.below (gbelow_drawn (k := n) (Below.refl _ wr)))
      have v2 : ∀ n, _ := fun n => convert_rd (hrb.below (gbelow_drawn (k := n) (Below.refl _ wr)))
      have hl := HL.out
      clear hra hrb hx
      go_upto_region 6 with fail
      go_quiet (fail)
      go_wp2_with fail
      exact ⟨⟨k + 1, by simp, by omega, below_to HB.out (gbelow_drawn (Below.refl _ wr)) HB.out.size⟩, by simp [intOf]; omega⟩
    · have q1 : decide ((k : Int) < (l.length : Int)) = false := decide_eq_false (by omega)
      have q2 : ¬ (k : Int) < (l.length : Int) := by omega
      go_wp2_with fail
      go_ret
      exact ⟨rfl, HB.out⟩
theorem gfew_any (A : Option Addr) (n c : Nat) (w : World) (hc : c ≤ 9223372036854775807) (hn : n ≤ c) (k : Nat) (hk : k = min n 10000) :
    Calls Tryd.prog 14 #[.slice A n c] w fun e w' => e = .returned (.slice A k c) ∧ w = w' := by
  have hmin := fun W => min_run (P := Tryd.prog) #[3, 3] 3 (n : Int) 10000 (k : Int) (by omega) W
  have h1 : k ≤ n := by omega
  have h2 : k ≤ c := by omega
  clear hk
  go_enter Tryd.func14, Tryd.ntmps14
  go_wp2_with fail
  go_ret
  exact ⟨rfl, rfl⟩
theorem gsome_any (A : Option Addr) (n c : Nat) (w : World) (hc : c ≤ 9223372036854775807) (hn : n ≤ c) (k : Nat) (hk : k = min n 100) :
    Calls Tryd.prog 15 #[.slice A n c] w fun e w' => e = .returned (.slice A k c) ∧ w = w' := by
  have hmin := fun W => min_run (P := Tryd.prog) #[3, 3] 3 (n : Int) 100 (k : Int) (by omega) W
  have h1 : k ≤ n := by omega
  have h2 : k ≤ c := by omega
  clear hk
  go_enter Tryd.func15, Tryd.ntmps15
  go_wp2_with fail
  go_ret
  exact ⟨rfl, rfl⟩
end Go.Proofs.YtnjohgfhagoppaaDoor
