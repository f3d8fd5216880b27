/-
  What is proved: 'few' and 'shown' of the laws of layer 13.
  Conditions: none of its own.
-/
import Derived.Test.YtjnhfabgdegngaaDoorGrDecF
import Derived.Test.YtjnhfabgdegngaaDoorGrOrd
import Derived.Test.YtjnhfabgdegngaaDoorIs
namespace Go.Proofs.YtjnhfabgdegngaaDoor
open Go.RowKit

theorem grfew_any (A : Option Addr) (n c : Nat) (w : World) (hc : c ≤ 9223372036854775807) (hn : n ≤ c) (k : Nat) (hk : k = min n 10000) :
    Calls Tryd.prog 5 #[.slice A n c] w fun e w' => e = .returned (.slice A k c) ∧ w = w' := by
  have hmin := fun W => min_run (P := Tryd.prog) #[3, 3] 3 (n : Int) 10000 (k : Int) (by omega) W
  have h1 : k ≤ n := by omega
  have h2 : k ≤ c := by omega
  clear hk
  go_enter Tryd.func5, Tryd.ntmps5
  go_wp2_with fail
  go_ret
  exact ⟨rfl, rfl⟩
theorem grbelow_on {n : Nat} {w a b : World} (h : Below n w a) (hn : w.heap.size = n) (k : Below a.heap.size a b) : Below n w b := by subst hn; exact below_to h k h.size
def grfr : List UInt8 := List.replicate 14 0
def grsh : GH := ⟨true, true, 5, false, 0⟩
def grpk : List UInt8 := [160, 0, 101, 88, 250, 161, 0, 0, 0, 0, 0, 5, 0, 0, 0, 0, 0, 0, 0, 0, 0, 0, 0, 0, 0, 0]
theorem grpk_eq : grsh.pack grfr = grpk := by decide
theorem grsh_fit : grsh.Fit := ⟨by decide, by decide⟩
theorem grsh1 (g : Nat) (W : World) (hr : Rd W (.slice (some ⟨g, 0, none⟩) 14 14) grfr) : Calls Tryd.prog 6 #[.agg #[.bool true, .bool true, .int .u32 5, .bool false, .int .u32 0], .slice (some ⟨g, 0, none⟩) 14 14] W fun e w' =>
    ∃ b, e = .returned (.tuple #[.slice (some ⟨b, 0, none⟩) 26 26, .nilIface]) ∧ w'.heap[b]? = some (bytesObj grpk) ∧ Below W.heap.size W w' := by
  refine (grencap_ok grsh grsh_fit _ 14 grfr W hr (by decide) (by decide)).mono ?_
  rw [grpk_eq]
  rintro e w' ⟨b, he, _, h1, h2⟩
  exact ⟨b, he, h1, h2⟩
theorem grsh2 (g : Nat) (W : World) (hr : Rd W (.slice (some ⟨g, 0, none⟩) 26 26) grpk) : Calls Tryd.prog 8 #[.slice (some ⟨g, 0, none⟩) 26 26] W fun e w' =>
    ∃ b, e = .returned (.tuple #[.agg #[.bool true, .bool true, .int .u32 5, .bool false, .int .u32 0], .slice (some ⟨b, 0, none⟩) 14 14, .nilIface]) ∧ Below W.heap.size W w' := by
  refine (grdec_any (bs := grpk) hr (by decide)).mono ?_
  rintro e w' (⟨h, _⟩ | ⟨_, b, he, _, _, h2⟩)
  · exact absurd (by decide) h
  · exact ⟨b, he, h2⟩
theorem grsh3 (g : Nat) (W : World) (hr : Rd W (.slice (some ⟨g, 0, none⟩) 3 14) (grfr.take 3)) : Calls Tryd.prog 8 #[.slice (some ⟨g, 0, none⟩) 3 14] W fun e w' =>
    ∃ b, e = .returned (.tuple #[.agg #[.bool false, .bool false, .int .u32 0, .bool false, .int .u32 0], .slice none 0 0, .iface 74 (.pointer (some ⟨b, 0, none⟩))]) ∧ Chain w' 2 [grWord, octetsWord] (.iface 74 (.pointer (some ⟨b, 0, none⟩))) ∧ Below W.heap.size W w' := by
  refine (grdec_any (bs := grfr.take 3) hr (by decide)).mono ?_
  rintro e w' (⟨_, h⟩ | ⟨h, _⟩)
  · exact h
  · exact absurd h (by decide)
theorem grsh4 (g : Nat) (W : World) (h : OrdAt W g false 0) : Calls Tryd.prog 13 #[.pointer (some ⟨g, 0, none⟩), .int .u32 7] W fun e w' => e = .returned (.bool true) ∧ OrdAt w' g true 7 ∧ Fr (fun a => a.block = g) W w' :=
  graccept_any g false 0 7 (by decide) (by decide) W h
theorem grsh5 (g : Nat) (W : World) (h : OrdAt W g true 7) : Calls Tryd.prog 13 #[.pointer (some ⟨g, 0, none⟩), .int .u32 9] W fun e w' => e = .returned (.bool true) ∧ OrdAt w' g true 9 ∧ Fr (fun a => a.block = g) W w' :=
  graccept_any g true 7 9 (by decide) (by decide) W h
theorem grsh6 (g : Nat) (W : World) (h : OrdAt W g true 9) : Calls Tryd.prog 13 #[.pointer (some ⟨g, 0, none⟩), .int .u32 8] W fun e w' => e = .returned (.bool false) ∧ OrdAt w' g true 9 ∧ Fr (fun a => a.block = g) W w' :=
  graccept_any g true 9 8 (by decide) (by decide) W h
theorem below_blk {n g : Nat} {w a b : World} (h : Below n w a) (hf : Fr (fun x => x.block = g) a b) (hg : n ≤ g) (hn : n ≤ a.heap.size) : Below n w b :=
  below_to h (hf.below (B := n) hn (fun x hx => by have e : x.block = g := hx; omega)) (Nat.le_refl _)
set_option maxRecDepth 100000 in
set_option maxHeartbeats 4000000 in
theorem grShown_any (w : World) : Calls Tryd.prog 4 #[] w fun e w' => e = .returned (.bool true) ∧ Below w.heap.size w w' := by
  have hmk : (Instr.makeSlice 25 (.int .i64 14) (.int .i64 14)).run Tryd.prog w = .ok (.slice (some ⟨w.heap.size, 0, none⟩) 14 14) (w.alloc (bytesObj grfr)) := make_bytes 14 (by decide) w
  have HB0 : Hid (Below w.heap.size w (w.alloc (bytesObj grfr))) := (Below.refl _ _).alloc (Nat.le_refl _) _
  have HR0 : Hid (Rd (w.alloc (bytesObj grfr)) (.slice (some ⟨w.heap.size, 0, none⟩) 14 14) grfr) := Rd.of_obj (c := 14) (bytesObj_new w grfr) (by decide)
  have f1 := methodErrorW
  go_enter Tryd.func4, Tryd.ntmps4
  generalize hW : w.alloc (bytesObj grfr) = W0 at hmk HB0 HR0
  clear hW
  generalize hn : w.heap.size = n at *
  have HN := Lib.hid hn
  clear hn
  go_wp2_with fail
  clear hmk
  refine (grsh1 n W0 HR0.out).mono ?_
  rintro e w1 ⟨b1, rfl, ho1, hl1⟩
  have HB1 := Lib.hid (grbelow_on HB0.out HN.out hl1)
  have HR1 := Lib.hid (HR0.out.below hl1)
  have HO1 := Lib.hid ho1
  clear ho1 hl1 HB0 HR0
  go_wp2_with fail
  refine (grsh2 b1 w1 (Rd.of_obj (c := 26) HO1.out (by decide))).mono ?_
  rintro e w2 ⟨b2, rfl, hl2⟩
  have hl2' := hl2.alloc hl2.size (.cells #[.bool true, .bool true, .int .u32 5, .bool false, .int .u32 0] 24)
  have HB2 := Lib.hid (grbelow_on HB1.out HN.out hl2')
  have HR2 := Lib.hid (HR1.out.below hl2')
  have HO2 := Lib.hid ((hl2'.block _ (Array.getElem?_eq_some_iff.1 HO1.out).1).trans HO1.out)
  have HX2 : Hid (GBox (w2.alloc (.cells #[.bool true, .bool true, .int .u32 5, .bool false, .int .u32 0] 24)) w2.heap.size grsh) := GBox.new w2 grsh
  clear hl2 hl2' HB1 HR1 HO1
  go_upto_region 4 with fail
  generalize w2.alloc (.cells #[.bool true, .bool true, .int .u32 5, .bool false, .int .u32 0] 24) = W2 at *
  generalize w2.heap.size = G2 at *
  go_wp2_with fail
  refine (grsh3 n W2 (Rd.front (bs := grfr) HR2.out (by decide))).mono ?_
  rintro e w3 ⟨b3, rfl, hc3, hl3⟩
  have hl3' := (hl3.alloc hl3.size (.cells #[.bool false, .bool false, .int .u32 0, .bool false, .int .u32 0] 24)).alloc (by rw [World.size_alloc]; have := hl3.size; omega) (.cells #[.bool false, .int .u32 0] 45)
  have HB3 := Lib.hid (grbelow_on HB2.out HN.out hl3')
  have ho3 := ((hl3'.block _ (Array.getElem?_eq_some_iff.1 HO2.out).1).trans HO2.out)
  have HX3 := Lib.hid (HX2.out.below hl3')
  have HC3 := Lib.hid (hc3.below (((Below.refl _ _).alloc (Nat.le_refl _) (.cells #[.bool false, .bool false, .int .u32 0, .bool false, .int .u32 0] 24)).alloc (by rw [World.size_alloc]; omega) (.cells #[.bool false, .int .u32 0] 45)))
  have HD3 : Hid (OrdAt ((w3.alloc (.cells #[.bool false, .bool false, .int .u32 0, .bool false, .int .u32 0] 24)).alloc (.cells #[.bool false, .int .u32 0] 45)) (w3.heap.size + 1) false 0) := ⟨by have h := heap_alloc_new (w3.alloc (.cells #[.bool false, .bool false, .int .u32 0, .bool false, .int .u32 0] 24)) (.cells #[.bool false, .int .u32 0] 45); rw [World.size_alloc] at h; exact h⟩
  have HG3 : Hid (n ≤ w3.heap.size + 1) := by have h1 := hl3.size; have h2 := HB2.out.size; show _ ≤ _; have := HN.out; omega
  have HOB := Lib.hid ho3
  clear hl3 hl3' hc3 ho3 HB2 HR2 HO2 HX2
  go_upto_region 6 with fail
  generalize (w3.alloc (.cells #[.bool false, .bool false, .int .u32 0, .bool false, .int .u32 0] 24)).alloc (.cells #[.bool false, .int .u32 0] 45) = W3 at *
  generalize w3.heap.size + 1 = g at *
  have q0 : W3.cell? ⟨b1, 0, none⟩ = some (.int .u8 160) := bytesCell HOB.out 0 160 rfl
  have q1 : W3.cell? ⟨G2, 0, none⟩ = some (.bool true) := HX3.out.c0
  have q2 : W3.cell? ⟨G2, 2, none⟩ = some (.int .u32 5) := HX3.out.c2
  have q3 : W3.cell? ⟨G2, 3, none⟩ = some (.bool false) := HX3.out.c3
  obtain ⟨b, x, hv, h0, h1, h2⟩ := HC3.out
  obtain rfl : b3 = b := by injection hv with _ h; injection h with h; injection h with h; injection h
  have HT := Lib.hid (wrong_text 2 (by decide) [octetsWord] b3 grWord x W3 (by decide) h0 h1 h2)
  clear h0 h1 h2 hv
  go_wp2_with fail
  refine HT.out.mono ?_
  rintro e w4 ⟨he, m, hw4⟩
  have he' : e = .returned (.string ⟨#[103, 114, 101, 58, 32, 111, 99, 116, 101, 116, 115, 58, 32, 101, 114, 114, 111, 114, 32, 50]⟩) := he
  subst he'
  have hb4 : Below W3.heap.size W3 w4 := by subst hw4; exact ⟨rfl, rfl, rfl, Nat.le_refl _, fun _ _ => rfl⟩
  have HB4 := Lib.hid (grbelow_on HB3.out HN.out hb4)
  have HC4 := Lib.hid (HC3.out.below hb4)
  have HD4 := Lib.hid (HD3.out.below hb4)
  clear hw4 hb4 he HT q0 q1 q2 q3 HB3 HC3 HD3
  go_wp2_with fail
  refine (is_any 2 2 _ _ _ HC4.out).mono ?_
  rintro e w' ⟨he, rfl⟩
  have he' : e = .returned (.bool true) := he
  subst he'
  clear he
  go_wp2_with fail
  refine (grsh4 g _ HD4.out).mono ?_
  rintro e w5 ⟨rfl, h5, hf5⟩
  have HD5 := Lib.hid h5
  have HB5 := Lib.hid (below_blk HB4.out hf5 HG3.out (by have := HB4.out.size; have := HN.out; omega))
  clear h5 hf5
  go_wp2_with fail
  refine (grsh5 g _ HD5.out).mono ?_
  rintro e w6 ⟨rfl, h6, hf6⟩
  have HD6 := Lib.hid h6
  have HB6 := Lib.hid (below_blk HB5.out hf6 HG3.out (by have := HB5.out.size; have := HN.out; omega))
  clear h6 hf6
  go_wp2_with fail
  refine (grsh6 g _ HD6.out).mono ?_
  rintro e w7 ⟨rfl, h7, hf7⟩
  have HB7 := Lib.hid (below_blk HB6.out hf7 HG3.out (by have := HB6.out.size; have := HN.out; omega))
  clear h7 hf7
  go_wp2_with fail
  go_ret
  exact ⟨rfl, HB7.out⟩
end Go.Proofs.YtjnhfabgdegngaaDoor
