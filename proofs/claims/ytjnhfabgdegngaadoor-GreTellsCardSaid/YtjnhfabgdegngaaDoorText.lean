/-
  What is proved: the text of a chain of wrapped errors (Error of Wrong and of Errno, with strconv.Itoa below 100).
  Conditions: the number is at least 0 and below 100.
-/
import Derived.Test.YtjnhfabgdegngaaDoorCode
import Derived.Deep.QuietTactic
import Derived.BigQuiet
import Derived.WalkLawsBesides
import Derived.WalkSpells
namespace Go.Proofs.YtjnhfabgdegngaaDoor
open Go.RowKit Go.Extern.Stop Go.Stop Go.Extern

/-- A number below a hundred, to base ten. -/
def dec (n : Nat) : ByteArray := if n < 10 then ⟨#[UInt8.ofNat (48 + n)]⟩ else ⟨#[UInt8.ofNat (48 + n / 10), UInt8.ofNat (48 + n % 10)]⟩
def errorWord : ByteArray := ⟨#[101, 114, 114, 111, 114, 32]⟩
def colon : ByteArray := ⟨#[58, 32]⟩
/-- The text of a chain. -/
def text (n : Nat) : List ByteArray → ByteArray
  | [] => errorWord ++ dec n
  | s :: r => s ++ colon ++ text n r

set_option maxRecDepth 100000 in
theorem itoa_lit (n : Nat) (w : World) (h : n < 14) :
    Calls Tryd.prog 44 #[.int .i64 n] w fun e w' => e = .returned (.string (dec n)) ∧ w = w' := by
  have hc : n = 0 ∨ n = 1 ∨ n = 2 ∨ n = 3 ∨ n = 4 ∨ n = 5 ∨ n = 6 ∨ n = 7 ∨ n = 8 ∨ n = 9 ∨ n = 10 ∨ n = 11 ∨ n = 12 ∨ n = 13 := by omega
  clear h
  rcases hc with rfl | rfl | rfl | rfl | rfl | rfl | rfl | rfl | rfl | rfl | rfl | rfl | rfl | rfl
  all_goals
    go_enter Tryd.func44, Tryd.ntmps44
    go_wp2
    go_ret
    exact ⟨by kernel_rfl, rfl⟩
theorem dec_size (n : Nat) : (dec n).size ≤ 2 := by unfold dec; split <;> simp [ByteArray.size]
theorem errno_text (n : Nat) (w : World) (h : n < 14) :
    Calls Tryd.prog 29 #[.int .i64 n] w fun e w' => e = .returned (.string (text n [])) ∧ w = w' := by
  have hs : ¬ 9223372036854775807 < 6 + (dec n).size := by have := dec_size n; omega
  go_enter Tryd.func29, Tryd.ntmps29
  go_wp2_with (go_at_call 44; refine (itoa_lit n _ h).mono ?_; rintro e w' ⟨rfl, rfl⟩)
  go_ret
  exact ⟨rfl, rfl⟩
theorem methodErrorE (v : Int) (w : World) : (Go.method 266 32 (.int .i64 v) "Error").run Tryd.prog w = .ok (29, .int .i64 v) w := by kernel_rfl
theorem methodErrorW (p : Addr) (w : World) : (Go.method 266 74 (.pointer (some p)) "Error").run Tryd.prog w = .ok (86, .pointer (some p)) w := by kernel_rfl

theorem wrong_text (n : Nat) (h : n < 14) : ∀ (r : List ByteArray) (b : Nat) (s : ByteArray) (x : Value) (w : World), (text n (s :: r)).size ≤ 1000000000 → w.cell? ⟨b, 0, none⟩ = some (.string s) → w.cell? ⟨b, 1, none⟩ = some x → Chain w n r x →
    Calls Tryd.prog 86 #[.pointer (some ⟨b, 0, none⟩)] w fun e w' => e = .returned (.string (text n (s :: r))) ∧ ∃ m, w' = w.drewN m := by
  intro r
  induction r with
  | nil =>
    intro b s x w hz h0 h1 hc
    have hx : x = Value.iface 32 (.int .i64 n) := hc
    subst hx
    have f1 := methodErrorE
    have hs1 : s.size + 2 ≤ 1000000000 := by simp only [text, ByteArray.size_append] at hz; have : colon.size = 2 := rfl; omega
    have hs2 : s.size + 2 + (text n []).size ≤ 1000000000 := by simp only [text, ByteArray.size_append] at hz ⊢; have : colon.size = 2 := rfl; omega
    clear hz hc
    go_enter Tryd.func86, Tryd.ntmps86
    go_wp2_with fail
    go_quiet ((go_at_call 29; exact Calls.quiet_of_same ((errno_text n _ h).mono fun _ _ ⟨p, q⟩ => ⟨p, q.symm⟩)))
    go_wp2_with fail
    go_ret
    exact ⟨rfl, nq, rfl⟩
  | cons s' r ih =>
    intro b s x w hz h0 h1 hc
    obtain ⟨b', x', rfl, h0', h1', hc'⟩ := hc
    have f1 := methodErrorW
    have hs1 : s.size + 2 ≤ 1000000000 := by simp only [text, ByteArray.size_append] at hz; have : colon.size = 2 := rfl; omega
    have hs2 : s.size + 2 + (text n (s' :: r)).size ≤ 1000000000 := by simp only [text, ByteArray.size_append] at hz ⊢; have : colon.size = 2 := rfl; omega
    have HI := Lib.hid (fun m : Nat => ih b' s' x' (w.drewN m) (by simp only [text, ByteArray.size_append] at hz ⊢; omega) h0' h1' (Chain.keep (w := w) (w' := w.drewN m) (fun _ _ h => h) hc'))
    clear hz hc' ih h0' h1'
    go_enter Tryd.func86, Tryd.ntmps86
    go_wp2_with fail
    go_quiet ((go_at_call 86; exact Calls.quiet_of (HI.out _)))
    go_wp2_with fail
    go_ret
    exact ⟨rfl, nq, rfl⟩
end Go.Proofs.YtjnhfabgdegngaaDoor
