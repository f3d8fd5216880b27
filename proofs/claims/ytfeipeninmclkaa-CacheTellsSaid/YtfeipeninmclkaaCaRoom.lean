/-
  What is proved: (*cache.Cache).makeRoom, Len, New by contract.
  Conditions: none.
-/
import Derived.Test.YtfeipeninmclkaaCaLeast
namespace Go.Proofs.Ytfeipeninmclkaa
open Go.RowKit

def RoomAt (L : List En) (p b : Nat) (F : Nat → Prop) (rep : Rep) (w : World) (e : Ending) (w' : World) : Prop :=
  e = .returned (.bool (room L).isSome) ∧ Tab w' p b F rep none ((room L).getD L) ∧ (∀ a v, w.cell? a = some v → w'.cell? a = some v) ∧ Did w w' F F
set_option maxRecDepth 100000 in
set_option maxHeartbeats 2000000 in
theorem room_any (L : List En) (p b : Nat) (F : Nat → Prop) (rep : Rep) (w : World) (h : Tab w p b F rep none L) :
    Calls Try.prog 24 #[.pointer (some ⟨p, 0, none⟩)] w (RoomAt L p b F rep w) := by
  have HT := Lib.hid h
  have X := Lib.hid (least_any L p b F rep none w h)
  have hl := h.len 3
  have hp := h.cell
  have h32 := h.few
  clear h
  by_cases hlt : L.length < 32
  · have q1 : decide ((L.length : Int) < 32) = true := decide_eq_true (by omega)
    have HR : Hid (room L = some L) := Lib.hid (by unfold room; rw [if_pos hlt])
    clear hlt
    go_enter Try.func24, Try.ntmps24
    go_wp2_with fail
    go_ret
    refine ⟨?_, ?_, fun _ _ h => h, Did.refl _ _⟩
    · rw [HR.out]; rfl
    · rw [HR.out]; exact HT.out
  · have q1 : decide ((L.length : Int) < 32) = false := decide_eq_false (by omega)
    have HR : Hid (room L = (lst L).map fun e => delL L e.ip) := Lib.hid (by unfold room; rw [if_neg hlt])
    clear hlt
    go_enter Try.func24, Try.ntmps24
    go_upto_region 4 with (go_at_call 35; (with_reducible refine X.out.mono ?_); rintro e w2 ⟨rfl, h1⟩; (have H1 := Lib.hid h1); clear h1)
    have HT2 := Lib.hid (HT.out.below H1.out)
    obtain ⟨acc, hacc⟩ : ∃ acc, lst L = acc := ⟨_, rfl⟩
    have HA := Lib.hid hacc
    rw [hacc] at HR ⊢
    clear hacc hl hp X
    cases acc with
    | none =>
      go_wp2_with fail
      go_ret
      refine ⟨?_, ?_, fun a v h => (H1.out.cell (World.block_lt_of_cell? w _ h)).trans h, Did.of_below H1.out⟩
      · rw [HR.out]; rfl
      · rw [HR.out]; exact HT2.out
    | some v =>
      obtain ⟨i, hi⟩ : ∃ i, v.ip = i := ⟨_, rfl⟩
      rw [show accIp (some v) = i from hi, show (some v).isSome = true from rfl]
      have hip : U32 i := by rw [← hi]; exact (HT.out.ok v (lst_mem HA.out)).ip
      have Hi := Lib.hid hi
      obtain ⟨w4, hr4, hT4, hm4⟩ := HT2.out.drop hip 0
      have HT4 := Lib.hid hT4
      have HM4 := Lib.hid hm4
      have hp := HT2.out.cell
      clear hT4 hm4 hi hip
      go_wp2_with fail
      go_ret
      refine ⟨?_, ?_, fun a v h => turned_cell HM4.out ((H1.out.cell (World.block_lt_of_cell? w _ h)).trans h), (Did.of_below H1.out).trans (Did.turned HM4.out HT.out.fb)⟩
      · rw [HR.out]; rfl
      · rw [HR.out]
        show Tab _ _ _ _ _ _ (delL L v.ip)
        rw [Hi.out]
        exact HT4.out

theorem len_entries (L : List En) (p b : Nat) (F : Nat → Prop) (rep : Rep) (x : Option Int) (w : World) (h : Tab w p b F rep x L) :
    Calls Try.prog 21 #[.pointer (some ⟨p, 0, none⟩)] w fun e w' => e = .returned (.int .i64 L.length) ∧ w = w' := by
  have hl := h.len 3
  have hp := h.cell
  clear h
  go_enter Try.func21, Try.ntmps21
  go_wp2_with fail
  go_ret
  exact ⟨rfl, rfl⟩

/-- An empty cache. -/
theorem new_any (w : World) : Calls Try.prog 10 #[] w fun e w' => ∃ p, e = .returned (.pointer (some ⟨p, 0, none⟩)) ∧ Ca w' p (fun k => w.heap.size ≤ k ∧ k < w.heap.size + 2) [] ∧ w.heap.size ≤ p ∧ Below w.heap.size w w' := by
  have hmm := @run_makeMap Try.prog
  go_enter Try.func10, Try.ntmps10
  go_wp2_with fail
  go_ret
  refine ⟨w.heap.size + 1, rfl, ⟨w.heap.size, fun _ => (0, 0), ⟨?_, ⟨.map [], ?_, Reads.nil _⟩, (by simp), (by simp), (by simp), List.Pairwise.nil, (by simp), (by simp), (by omega), (by omega), fun k hk => by simp; omega⟩⟩, (by omega), ((Below.refl _ w).alloc (Nat.le_refl _) _).alloc (by simp) _⟩
  · have h := heap_alloc_new (w.alloc (.map #[] 0)) (Obj.cells #[Value.map (some w.heap.size)] 65)
    rw [World.size_alloc] at h
    unfold World.cell?
    rw [h]
    rfl
  · exact (World.ownsMap_made w _ _ _).alloc _
end Go.Proofs.Ytfeipeninmclkaa
