/-
  What is proved: the document's Right, Critical, 'some' of layer 12 by contract.
  Conditions: fewer than a thousand options.
-/
import Derived.Test.YtnjohgfhagoppaaDoorGvSaid
namespace Go.Proofs.YtnjohgfhagoppaaDoor
open Go.RowKit

theorem rcrit_any (x : Op) (v : Value) (w : World) :
    Calls Tryd.prog 21 #[.agg #[.int .u16 x.c, .int .u8 x.t, v]] w fun e w' => e = .returned (.bool (decide (128 ≤ x.t))) ∧ Below w.heap.size w w' := by
  have HB2 : Hid (∀ ob, Below w.heap.size w (w.alloc ob)) := fun ob => (Below.refl _ _).alloc (Nat.le_refl _) ob
  by_cases hc : 128 ≤ x.t
  · have q : decide ((128 : Int) ≤ (x.t : Int)) = true := decide_eq_true (by omega)
    rw [decide_eq_true hc]
    go_enter Tryd.func21, Tryd.ntmps21
    go_wp2_with fail
    go_ret
    exact ⟨rfl, HB2.out _⟩
  · have q : decide ((128 : Int) ≤ (x.t : Int)) = false := decide_eq_false (by omega)
    rw [decide_eq_false hc]
    go_enter Tryd.func21, Tryd.ntmps21
    go_wp2_with fail
    go_ret
    exact ⟨rfl, HB2.out _⟩
set_option maxHeartbeats 2000000 in
theorem rsome_any (A : Option Addr) (l : List Op) (c : Nat) (w : World) (h : OpsAt w A l) (hn : l.length ≤ 1000000) :
    Calls Tryd.prog 45 #[.slice A l.length c] w fun e w' => e = .returned (.bool (opCrit l)) ∧ w = w' := by
  have H := Lib.hid h
  have HN := Lib.hid hn
  clear h hn
  go_enter Tryd.func45, Tryd.ntmps45
  go_wp2_with fail
  go_loopw [3] (fun s8 wr => ∃ k : Nat, s8 = .int .i64 (k : Int) ∧ k ≤ l.length ∧ opCrit (l.take k) = false ∧ wr = w) (fun s8 _ => l.length - (intOf s8).toNat)
  case atStart => exact ⟨0, rfl, Nat.zero_le _, rfl, rfl⟩
  case round =>
    obtain ⟨k, rfl, hk, hal, rfl⟩ := hrel
    have HA := Lib.hid hal
    clear hal
    by_cases hlt : k < l.length
    · have q1 : decide ((k : Int) < (l.length : Int)) = true := decide_eq_true (by omega)
      obtain ⟨x, hx⟩ : ∃ x, l[k]? = some x := ⟨l[k], List.getElem?_eq_getElem hlt⟩
      obtain ⟨g, o, B, bc, rfl, ha, _, _⟩ := H.out k x hx
      obtain ⟨c0, c1, c2⟩ := ha
      have hn := HN.out
      by_cases hc : 128 ≤ x.t
      · have HR := Lib.hid (opCrit_get hx hc)
        have q2 : decide ((128 : Int) ≤ (x.t : Int)) = true := decide_eq_true (by omega)
        clear hx hc
        go_wp2_with fail
        go_ret
        exact ⟨by rw [HR.out]; rfl, rfl⟩
      · have HR := Lib.hid (opCrit_take_succ hx HA.out hc)
        have q2 : decide ((128 : Int) ≤ (x.t : Int)) = false := decide_eq_false (by omega)
        clear hx hc
        go_wp2_with fail
        exact ⟨⟨k + 1, by simp, by omega, HR.out, trivial⟩, by simp [intOf]; omega⟩
    · have q1 : decide ((k : Int) < (l.length : Int)) = false := decide_eq_false (by omega)
      have hkl : k = l.length := by omega
      have hall := HA.out
      rw [hkl, List.take_length] at hall
      have HR := Lib.hid hall
      clear HA hall hkl hk
      go_wp2_with fail
      go_ret
      exact ⟨by rw [HR.out]; rfl, rfl⟩
set_option maxHeartbeats 2000000 in
theorem rright_any (A : Option Addr) (l : List Op) (c : Nat) (w : World) (h : OpsAt w A l) (hn : l.length ≤ 1000) :
    Calls Tryd.prog 25 #[.slice A l.length c] w fun e w' => e = .returned (.int .i64 (opRight l : Nat)) ∧ w = w' := by
  have H := Lib.hid h
  have HN := Lib.hid hn
  clear h hn
  go_enter Tryd.func25, Tryd.ntmps25
  go_wp2_with fail
  go_loopw [3, 4] (fun s3 s4 wr => ∃ k : Nat, s4 = .int .i64 (k : Int) ∧ k ≤ l.length ∧ opAll (l.take k) = true ∧ s3 = .int .i64 ((min (opSize (l.take k)) 1000 : Nat) : Int) ∧ wr = w) (fun _ s4 _ => l.length - (intOf s4).toNat)
  case atStart => exact ⟨0, rfl, Nat.zero_le _, rfl, rfl, rfl⟩
  case round =>
    obtain ⟨k, rfl, hk, hal, rfl, rfl⟩ := hrel
    have HA := Lib.hid hal
    clear hal
    by_cases hlt : k < l.length
    · have q1 : decide ((k : Int) < (l.length : Int)) = true := decide_eq_true (by omega)
      obtain ⟨x, hx⟩ : ∃ x, l[k]? = some x := ⟨l[k], List.getElem?_eq_getElem hlt⟩
      obtain ⟨g, o, B, bc, rfl, ha, _, _⟩ := H.out k x hx
      obtain ⟨c0, c1, c2⟩ := ha
      have hn := HN.out
      by_cases hok : x.b.length % 4 = 0 ∧ x.b.length ≤ 124
      · have HS := Lib.hid (opAll_take_succ hx HA.out hok.1 hok.2)
        have HZ := Lib.hid (opSize_take_succ l k x hx)
        have r1 : (Int.tmod (x.b.length : Int) 4) = 0 := by rw [Int.tmod_eq_emod_of_nonneg (by omega)]; omega
        have r2 : ¬ (124 : Int) < (x.b.length : Int) := by omega
        have r3 : x.b.length ≤ 124 := hok.2
        clear hx hok
        generalize hS : opSize (l.take k) = S at *
        have hS9 : min S 1000 ≤ 1000 := Nat.min_le_right _ _
        generalize hM : min S 1000 = M at *
        have hmn := fun W => min_run (P := Tryd.prog) #[3, 3] 3 ((M : Int) + 4 + (x.b.length : Int)) 1000 ((min (opSize (l.take (k + 1))) 1000 : Nat) : Int) (by rw [HZ.out]; omega) W
        clear hS
        go_wp2_with fail
        exact ⟨⟨k + 1, by simp, by omega, HS.out, rfl, trivial⟩, by simp [intOf]; omega⟩
      · have hbad := opAll_bad hx hok
        have hR : opRight l = 1 := by unfold opRight; rw [hbad]; rfl
        have HR := Lib.hid hR
        by_cases h4 : x.b.length % 4 = 0
        · have r1 : (Int.tmod (x.b.length : Int) 4) = 0 := by rw [Int.tmod_eq_emod_of_nonneg (by omega)]; omega
          have r2 : (124 : Int) < (x.b.length : Int) := by omega
          clear hx hok hbad hR
          go_wp2_with fail
          go_ret
          exact ⟨by rw [HR.out]; rfl, rfl⟩
        · have r1 : ¬ (Int.tmod (x.b.length : Int) 4) = 0 := by rw [Int.tmod_eq_emod_of_nonneg (by omega)]; omega
          clear hx hok hbad hR
          go_wp2_with fail
          go_ret
          exact ⟨by rw [HR.out]; rfl, rfl⟩
    · have q1 : decide ((k : Int) < (l.length : Int)) = false := decide_eq_false (by omega)
      have hkl : k = l.length := by omega
      have hfull : l.take k = l := by rw [hkl, List.take_length]
      have hall := HA.out
      rw [hfull] at hall ⊢
      clear HA hfull hkl hk
      by_cases hs : opSize l ≤ 252
      · have HR : Hid (opRight l = 0) := by show _ = _; unfold opRight; rw [hall, if_pos rfl, if_pos hs]
        have r1 : ¬ (252 : Int) < ((min (opSize l) 1000 : Nat) : Int) := by omega
        generalize min (opSize l) 1000 = M at *
        clear hall hs
        go_wp2_with fail
        go_ret
        exact ⟨by rw [HR.out]; rfl, rfl⟩
      · have HR : Hid (opRight l = 7) := by show _ = _; unfold opRight; rw [hall, if_pos rfl, if_neg hs]
        have r1 : (252 : Int) < ((min (opSize l) 1000 : Nat) : Int) := by omega
        generalize min (opSize l) 1000 = M at *
        clear hall hs
        go_wp2_with fail
        go_ret
        exact ⟨by rw [HR.out]; rfl, rfl⟩
end Go.Proofs.YtnjohgfhagoppaaDoor
