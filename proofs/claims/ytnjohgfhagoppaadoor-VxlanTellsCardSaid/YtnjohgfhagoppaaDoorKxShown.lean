/-
  What is proved: 'few' and 'shown' of the laws of layer 11.
  Conditions: none of its own.
-/
import Derived.Test.YtnjohgfhagoppaaDoorKxIO
import Derived.Test.YtnjohgfhagoppaaDoorSRow
namespace Go.Proofs.YtnjohgfhagoppaaDoor
open Go.RowKit

theorem kxfew_any (A : Option Addr) (n c : Nat) (w : World) (hc : c ≤ 9223372036854775807) (hn : n ≤ c) (k : Nat) (hk : k = min n 10000) :
    Calls Tryd.prog 7 #[.slice A n c] w fun e w' => e = .returned (.slice A k c) ∧ w = w' := by
  have hmin := fun W => min_run (P := Tryd.prog) #[3, 3] 3 (n : Int) 10000 (k : Int) (by omega) W
  have h1 : k ≤ n := by omega
  have h2 : k ≤ c := by omega
  clear hk
  go_enter Tryd.func7, Tryd.ntmps7
  go_wp2_with fail
  go_ret
  exact ⟨rfl, rfl⟩
theorem kbelow_on {n : Nat} {w a b : World} (h : Below n w a) (hn : w.heap.size = n) (k : Below a.heap.size a b) : Below n w b := by subst hn; exact below_to h k h.size
def xfr : List UInt8 := List.replicate 14 0
def xpk : List UInt8 := [8, 0, 0, 0, 0, 0, 5, 0, 0, 0, 0, 0, 0, 0, 0, 0, 0, 0, 0, 0, 0, 0]
theorem xpk_eq : xHd 5 ++ xfr = xpk := by decide
theorem kxsh1 (g : Nat) (W : World) (hr : Rd W (.slice (some ⟨g, 0, none⟩) 14 14) xfr) : Calls Tryd.prog 8 #[.int .u32 5, .slice (some ⟨g, 0, none⟩) 14 14] W fun e w' =>
    ∃ b, e = .returned (.tuple #[.slice (some ⟨b, 0, none⟩) 22 22, .nilIface]) ∧ w'.heap[b]? = some (bytesObj xpk) ∧ Below W.heap.size W w' := by
  refine (encap_ok 5 _ 14 xfr W (by decide) hr (by decide) (by decide)).mono ?_
  rw [xpk_eq]
  rintro e w' ⟨b, he, _, h1, h2⟩
  exact ⟨b, he, h1, h2⟩
theorem kxsh2 (g : Nat) (W : World) (hr : Rd W (.slice (some ⟨g, 0, none⟩) 22 22) xpk) : Calls Tryd.prog 10 #[.slice (some ⟨g, 0, none⟩) 22 22] W fun e w' =>
    ∃ b, e = .returned (.tuple #[.int .u32 5, .slice (some ⟨b, 0, none⟩) 14 14, .nilIface]) ∧ Below W.heap.size W w' := by
  refine (xdecap_ok (r := xfr) hr (by decide) (by decide) (by decide)).mono ?_
  rintro e w' ⟨b, he, _, _, h2⟩
  exact ⟨b, he, h2⟩
theorem kxsh3 (g : Nat) (W : World) (hr : Rd W (.slice (some ⟨g, 0, none⟩) 7 14) (xfr.take 7)) : Calls Tryd.prog 10 #[.slice (some ⟨g, 0, none⟩) 7 14] W (XBad 2 [vxWord, octetsWord] W) := by
  refine (xdecap_any hr (by decide)).mono ?_
  rintro e w' (⟨_, h⟩ | ⟨h, _⟩)
  · exact h
  · exact absurd h (by decide)
set_option maxRecDepth 100000 in
set_option maxHeartbeats 4000000 in
theorem kxShown_any (w : World) : Calls Tryd.prog 6 #[] w fun e w' => e = .returned (.bool true) ∧ Below w.heap.size w w' := by
  have hmk : (Instr.makeSlice 23 (.int .i64 14) (.int .i64 14)).run Tryd.prog w = .ok (.slice (some ⟨w.heap.size, 0, none⟩) 14 14) (w.alloc (bytesObj xfr)) := make_bytes 14 (by decide) w
  have HB0 : Hid (Below w.heap.size w (w.alloc (bytesObj xfr))) := (Below.refl _ _).alloc (Nat.le_refl _) _
  have HR0 : Hid (Rd (w.alloc (bytesObj xfr)) (.slice (some ⟨w.heap.size, 0, none⟩) 14 14) xfr) := Rd.of_obj (c := 14) (bytesObj_new w xfr) (by decide)
  have f1 := methodErrorW
  go_enter Tryd.func6, Tryd.ntmps6
  generalize hW : w.alloc (bytesObj xfr) = W0 at hmk HB0 HR0
  clear hW
  generalize hn : w.heap.size = n at *
  have HN := Lib.hid hn
  clear hn
  go_wp2_with fail
  clear hmk
  refine (kxsh1 n W0 HR0.out).mono ?_
  rintro e w1 ⟨b1, rfl, ho1, hl1⟩
  have HB1 := Lib.hid (kbelow_on HB0.out HN.out hl1)
  have HR1 := Lib.hid (HR0.out.below hl1)
  have HO1 := Lib.hid ho1
  clear ho1 hl1 HB0 HR0
  go_wp2_with fail
  refine (kxsh2 b1 w1 (Rd.of_obj (c := 22) HO1.out (by decide))).mono ?_
  rintro e w2 ⟨b2, rfl, hl2⟩
  have HB2 := Lib.hid (kbelow_on HB1.out HN.out hl2)
  have HR2 := Lib.hid (HR1.out.below hl2)
  have HO2 := Lib.hid ((hl2.block _ (Array.getElem?_eq_some_iff.1 HO1.out).1).trans HO1.out)
  clear hl2 HB1 HR1 HO1
  go_wp2_with fail
  refine (kxsh3 n w2 (Rd.front (bs := xfr) HR2.out (by decide))).mono ?_
  rintro e w3 ⟨b3, rfl, hc3, hl3⟩
  have HB3 := Lib.hid (kbelow_on HB2.out HN.out hl3)
  have ho3 := ((hl3.block _ (Array.getElem?_eq_some_iff.1 HO2.out).1).trans HO2.out)
  have q0 : w3.cell? ⟨b1, 0, none⟩ = some (.int .u8 8) := bytesCell ho3 0 8 rfl
  have q6 : w3.cell? ⟨b1, 6, none⟩ = some (.int .u8 5) := bytesCell ho3 6 5 rfl
  have HC3 := Lib.hid hc3
  clear hl3 HB2 HR2 HO2 ho3 hc3
  obtain ⟨b, x, hv, h0, h1, h2⟩ := HC3.out
  obtain rfl : b3 = b := by injection hv with _ h; injection h with h; injection h with h; injection h
  have HT := Lib.hid (wrong_text 2 (by decide) [octetsWord] b3 vxWord x w3 (by decide) h0 h1 h2)
  clear h0 h1 h2 hv
  go_wp2_with fail
  refine HT.out.mono ?_
  rintro e w4 ⟨he, m, hw4⟩
  have he' : e = .returned (.string ⟨#[118, 120, 108, 97, 110, 58, 32, 111, 99, 116, 101, 116, 115, 58, 32, 101, 114, 114, 111, 114, 32, 50]⟩) := he
  subst he'
  have hb4 : Below w3.heap.size w3 w4 := by subst hw4; exact ⟨rfl, rfl, rfl, Nat.le_refl _, fun _ _ => rfl⟩
  have HB4 := Lib.hid (kbelow_on HB3.out HN.out hb4)
  have HC4 := Lib.hid (HC3.out.below hb4)
  clear hw4 hb4 he HT
  go_wp2_with fail
  refine (is_any 2 2 _ _ _ HC4.out).mono ?_
  rintro e w' ⟨he, rfl⟩
  have he' : e = .returned (.bool true) := he
  subst he'
  clear he
  go_wp2_with fail
  go_ret
  exact ⟨rfl, HB4.out⟩
end Go.Proofs.YtnjohgfhagoppaaDoor
