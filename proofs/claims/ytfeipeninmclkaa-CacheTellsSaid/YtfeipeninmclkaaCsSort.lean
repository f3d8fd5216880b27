/-
  What is proved: slices.Sort at addresses by contract: a row of unlike addresses rises behind it; of nothing it is nothing.
  Conditions: at most forty-nine addresses, no two alike.
-/
import Derived.Test.YtfeipeninmclkaaCsPdq
namespace Go.Proofs.Ytfeipeninmclkaa
open Go.RowKit

theorem bitLen_le : ∀ L : Fin 50, Lib.bitLen L.val ≤ 6 := by decide
theorem rises_of {d : Array Int} (hs : Sort.SortedIn Sort.ltInt 0 d.size d) (hn : d.toList.Nodup) : d.toList.Pairwise (· < ·) := by
  rw [List.pairwise_iff_getElem]
  intro i j hi hj hij
  have hi' : i < d.size := by simpa using hi
  have hj' : j < d.size := by simpa using hj
  have h := hs i j (Nat.zero_le _) hij hj'
  have n := nodup_ne hn hi' hj' (by omega)
  rw [getElem!_pos d i hi', getElem!_pos d j hj'] at h n
  simp only [Sort.ltInt, decide_eq_false_iff_not] at h
  simp only [Array.getElem_toList]
  omega
def SortAt (g o : Nat) (d : Array Int) (w : World) (e : Ending) (w' : World) : Prop :=
  ∃ d', e = .returned (.tuple #[]) ∧ d'.toList.Perm d.toList ∧ d'.toList.Pairwise (· < ·) ∧ Sr w g o d' w'
set_option maxRecDepth 100000 in
set_option maxHeartbeats 1000000 in
theorem sort_any (g o cap N : Nat) (d : Array Int) (w : World) (hd : Sort.Holds (Value.int .u32) w g o d) (hN : d.size = N) (hsz : N ≤ 49) (hn : d.toList.Nodup) :
    Calls Try.prog 40 #[.slice (some ⟨g, o, none⟩) N cap] w (SortAt g o d w) := by
  have hl := bitLen_le ⟨N, by omega⟩
  simp only at hl
  have X := Lib.hid (len_any N w (by omega) (by omega))
  rw [Int.toNat_natCast] at X
  obtain ⟨l, hle⟩ : ∃ l, Lib.bitLen N = l := ⟨_, rfl⟩
  rw [hle] at X hl
  have Y := Lib.hid (show Calls Try.prog 43 #[_, .int .i64 0, _, _] _ _ from pdq_any g o cap N hsz N 0 N l d w (by omega) hd hN hn (Nat.zero_le _) (Nat.le_refl _) (by omega) (.inl rfl))
  have HN := Lib.hid hN
  have Hn := Lib.hid hn
  clear hd hN hn hle
  go_enter Try.func40, Try.ntmps40
  go_wp2_with (first
    | (go_at_call 44; (with_reducible refine X.out.mono ?_); rintro e1 w1 ⟨rfl, rfl⟩)
    | (go_at_call 43; (with_reducible refine Y.out.mono ?_); rintro e2 w2 ⟨f, rfl, h1, h2, h3⟩; (have H1 := Lib.hid h1); (have H2 := Lib.hid h2); (have H3 := Lib.hid h3); clear h1 h2 h3))
  go_end0
  have hp := perm_all (by rw [HN.out]; exact Nat.le_refl _) H1.out (Nat.zero_le _)
  refine ⟨f, rfl, hp, ?_, H3.out⟩
  have hs := H2.out
  rw [← HN.out, ← H1.out.1] at hs
  exact rises_of hs (hp.nodup_iff.2 Hn.out)

set_option maxHeartbeats 1000000 in
theorem insertion_nil (cap : Nat) (w : World) : Calls Try.prog 45 #[.slice none 0 cap, .int .i64 0, .int .i64 0] w fun e w' => e = .returned (.tuple #[]) ∧ w = w' := by
  go_enter Try.func45, Try.ntmps45
  go_wp2
  go_loopw [6] (fun s wr => s = .int .i64 1 ∧ w = wr) (fun _ _ => 0)
  case atStart => exact ⟨rfl, rfl⟩
  case round =>
    obtain ⟨rfl, rfl⟩ := hrel
    go_wp2
    go_end0
    exact ⟨rfl, rfl⟩
set_option maxHeartbeats 1000000 in
theorem pdq_nil (cap : Nat) (l : Int) (w : World) : Calls Try.prog 43 #[.slice none 0 cap, .int .i64 0, .int .i64 0, .int .i64 l] w fun e w' => e = .returned (.tuple #[]) ∧ w = w' := by
  go_enter Try.func43, Try.ntmps43
  go_wp2
  go_loopw [1, 2] (fun s t wr => s = .int .i64 0 ∧ t = .int .i64 0 ∧ w = wr) (fun _ _ _ => 0)
  case atStart => exact ⟨rfl, rfl, rfl⟩
  case round =>
    obtain ⟨rfl, rfl, rfl⟩ := hrel
    go_wp2_with (go_at_call 45; refine (insertion_nil _ _).mono ?_; rintro e1 w1 ⟨rfl, rfl⟩)
    (try simp only [Exit.inBlock, Exit.then])
    refine bodyPost_ret (results_none rfl _ _ _) rfl ?_
    exact ⟨rfl, rfl⟩
theorem sort_nil (cap : Nat) (w : World) : Calls Try.prog 40 #[.slice none 0 cap] w fun e w' => e = .returned (.tuple #[]) ∧ w = w' := by
  have X := Lib.hid (len_any 0 w (by omega) (by omega))
  go_enter Try.func40, Try.ntmps40
  go_wp2_with (first
    | (go_at_call 44; (with_reducible refine X.out.mono ?_); rintro e1 w1 ⟨rfl, rfl⟩)
    | (go_at_call 43; refine (pdq_nil _ _ _).mono ?_; rintro e2 w2 ⟨rfl, rfl⟩))
  go_end0
  exact ⟨rfl, rfl⟩
end Go.Proofs.Ytfeipeninmclkaa
