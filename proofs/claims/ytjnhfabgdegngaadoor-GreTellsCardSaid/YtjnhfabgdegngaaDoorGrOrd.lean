/-
  What is proved: gre's Order.Accept by contract.
  Conditions: the numbers fit their type.
-/
import Derived.Test.YtjnhfabgdegngaaDoorGrMem
namespace Go.Proofs.YtjnhfabgdegngaaDoor
open Go.RowKit

/-- Is a number ahead of another one, as numbers go round? -/
def gway (s l : Nat) : Nat := (s + 4294967296 - l) % 4294967296
def gahead (s l : Nat) : Bool := decide (0 < gway s l) && decide (gway s l < 2147483648)
def ordRow (b : Bool) (l : Nat) : Array Value := #[.bool b, .int .u32 (l : Int)]
structure OrdAt (W : World) (g : Nat) (b : Bool) (l : Nat) : Prop where
  o : W.heap[g]? = some (.cells (ordRow b l) 45)
theorem OrdAt.lt {W : World} {g : Nat} {b : Bool} {l : Nat} (h : OrdAt W g b l) : g < W.heap.size := (Array.getElem?_eq_some_iff.1 h.o).1
theorem OrdAt.below {W W' : World} {g : Nat} {b : Bool} {l : Nat} (h : OrdAt W g b l) (hb : Below W.heap.size W W') : OrdAt W' g b l := ⟨(hb.block g h.lt).trans h.o⟩
theorem OrdAt.drewN {W : World} {g : Nat} {b : Bool} {l : Nat} (h : OrdAt W g b l) (n : Nat) : OrdAt (W.drewN n) g b l := ⟨h.o⟩
theorem OrdAt.c0 {W : World} {g : Nat} {b : Bool} {l : Nat} (h : OrdAt W g b l) : W.cell? ⟨g, 0, none⟩ = some (.bool b) := by rw [cell_of_row W g 0 _ _ _ h.o]; rfl
theorem OrdAt.c1 {W : World} {g : Nat} {b : Bool} {l : Nat} (h : OrdAt W g b l) : W.cell? ⟨g, 1, none⟩ = some (.int .u32 (l : Int)) := by rw [cell_of_row W g 1 _ _ _ h.o]; rfl
theorem ordSize : (Tryd.prog.info? 45).map (·.size) = some 2 := by kernel_rfl
theorem ord_one (b : Bool) (l : Nat) : (ordRow b l).all (·.oneCell') = true := by simp [ordRow, Value.oneCell']
theorem grahead_any (s l : Nat) (hs : s < 4294967296) (hl : l < 4294967296) (w : World) :
    Calls Tryd.prog 32 #[.int .u32 (s : Int), .int .u32 (l : Int)] w fun e w' => e = .returned (.bool (gahead s l)) ∧ w = w' := by
  have hw : IntKind.u32.wrap ((s : Int) - (l : Int)) = ((gway s l : Nat) : Int) := by
    rw [IntKind.wrap_u32']
    unfold gway
    omega
  have hA : Hid (gahead s l = (decide (0 < gway s l) && decide (gway s l < 2147483648))) := rfl
  generalize gahead s l = R at *
  generalize gway s l = d at *
  obtain ⟨D, hD⟩ : ∃ D : Int, D = (d : Int) := ⟨_, rfl⟩
  rw [← hD] at hw
  by_cases h0 : 0 < d
  · have q0 : decide ((0 : Int) < D) = true := decide_eq_true (by omega)
    by_cases h1 : d < 2147483648
    · have q1 : decide (D < (2147483648 : Int)) = true := decide_eq_true (by omega)
      have hR : Hid (R = true) := by rw [hA.out, decide_eq_true h0, decide_eq_true h1]; rfl
      clear h0 h1 hD hs hl hA
      go_enter Tryd.func32, Tryd.ntmps32
      go_wp2_with fail
      go_ret
      exact ⟨by rw [hR.out]; rfl, rfl⟩
    · have q1 : decide (D < (2147483648 : Int)) = false := decide_eq_false (by omega)
      have hR : Hid (R = false) := by rw [hA.out, decide_eq_true h0, decide_eq_false h1]; rfl
      clear h0 h1 hD hs hl hA
      go_enter Tryd.func32, Tryd.ntmps32
      go_wp2_with fail
      go_ret
      exact ⟨by rw [hR.out]; rfl, rfl⟩
  · have q0 : decide ((0 : Int) < D) = false := decide_eq_false (by omega)
    have hR : Hid (R = false) := by rw [hA.out, decide_eq_false h0]; rfl
    clear h0 hD hs hl hA
    go_enter Tryd.func32, Tryd.ntmps32
    go_wp2_with fail
    go_ret
    exact ⟨by rw [hR.out]; rfl, rfl⟩
/-- Is a number accepted by an Order that has accepted (or has not) one? -/
def gaccept (b : Bool) (l s : Nat) : Bool := !b || gahead s l
set_option maxHeartbeats 2000000 in
theorem graccept_any (g : Nat) (b : Bool) (l s : Nat) (hs : s < 4294967296) (hl : l < 4294967296) (w : World) (h : OrdAt w g b l) :
    Calls Tryd.prog 13 #[.pointer (some ⟨g, 0, none⟩), .int .u32 (s : Int)] w fun e w' => e = .returned (.bool (gaccept b l s)) ∧ OrdAt w' g true (if gaccept b l s then s else l) ∧ Fr (fun a => a.block = g) w w' := by
  have HO := Lib.hid h
  have HA := Lib.hid (fun W => grahead_any s l hs hl W)
  have c0 := h.c0
  have c1 := h.c1
  have hZ := Lib.hid h.o
  have HF := Lib.hid (Fr.of_row w g (ordRow true s))
  have HS : Hid (OrdAt (w.setRow g (ordRow true s)) g true s) := ⟨setRow_heap _ _ _ _ _ _ h.o⟩
  generalize hN : (if gaccept b l s then s else l) = N
  have HN := Lib.hid hN
  clear h hs hl hN
  cases b
  · have hR : Hid (gaccept false l s = true) := rfl
    obtain rfl : s = N := by rw [← HN.out, hR.out]; rfl
    clear HN
    generalize gaccept false l s = R at *
    go_enter Tryd.func13, Tryd.ntmps13
    go_wp2_with (refine wpList_store_row rfl 45 (.tmp 21) (.tmp 20) rfl g (ordRow true s) rfl rfl 45 _ hZ.out ordSize rfl (ord_one _ _) ?_)
    go_ret
    exact ⟨by rw [hR.out]; rfl, HS.out, HF.out⟩
  · by_cases ha : gahead s l = true
    · have hR : Hid (gaccept true l s = true) := by unfold gaccept; rw [ha]; rfl
      obtain rfl : s = N := by rw [← HN.out, hR.out]; rfl
      clear HN
      rw [ha] at HA
      generalize gaccept true l s = R at *
      clear ha
      go_enter Tryd.func13, Tryd.ntmps13
      go_wp2_with fail
      refine (HA.out _).mono ?_
      rintro e w' ⟨rfl, rfl⟩
      go_wp2_with (refine wpList_store_row rfl 45 (.tmp 21) (.tmp 20) rfl g (ordRow true s) rfl rfl 45 _ hZ.out ordSize rfl (ord_one _ _) ?_)
      go_ret
      exact ⟨by rw [hR.out]; rfl, HS.out, HF.out⟩
    · have ha' : gahead s l = false := by simpa using ha
      have hR : Hid (gaccept true l s = false) := by unfold gaccept; rw [ha']; rfl
      obtain rfl : l = N := by rw [← HN.out, hR.out]; rfl
      clear HN
      rw [ha'] at HA
      generalize gaccept true l s = R at *
      clear ha ha'
      go_enter Tryd.func13, Tryd.ntmps13
      go_wp2_with fail
      refine (HA.out _).mono ?_
      rintro e w' ⟨rfl, rfl⟩
      go_wp2_with fail
      go_ret
      exact ⟨by rw [hR.out]; rfl, HO.out, Fr.refl _ _⟩
end Go.Proofs.YtjnhfabgdegngaaDoor
