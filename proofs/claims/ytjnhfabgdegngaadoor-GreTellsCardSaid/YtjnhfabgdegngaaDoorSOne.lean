/-
  What is proved: Sum and Valid of one part, and of two.
  Conditions: fewer than 2^40 bytes.
-/
import Derived.Test.YtjnhfabgdegngaaDoorSum
namespace Go.Proofs.YtjnhfabgdegngaaDoor
open Go.RowKit

theorem Rd.alloc {w : World} {v : Value} {bs : List UInt8} (h : Rd w v bs) (o : Obj) : Rd (w.alloc o) v bs := h.below ((Below.refl _ _).alloc (Nat.le_refl _) o)
theorem RdL.nil (w : World) : RdL w (.slice none 0 0) [] := ⟨none, 0, rfl, Nat.le_refl _, fun h => absurd h (by simp)⟩
theorem RdL.one {w : World} {v : Value} {bs : List UInt8} (h : Rd w v bs) : RdL (w.alloc (.cells #[v] 25)) (.slice (some ⟨w.heap.size, 0, none⟩) 1 1) [bs] :=
  ⟨_, 1, rfl, Nat.le_refl _, fun _ => ⟨_, 0, rfl, fun i b hb => by
    match i, hb with
    | 0, hb =>
      obtain rfl := Option.some.inj hb
      exact ⟨v, by rw [World.cell?_alloc_at _ _ _ _ rfl]; rfl, h.alloc _⟩⟩⟩
theorem RdL.two {w : World} {v v2 : Value} {bs bs2 : List UInt8} (h : Rd w v bs) (h2 : Rd w v2 bs2) : RdL (w.alloc (.cells #[v, v2] 25)) (.slice (some ⟨w.heap.size, 0, none⟩) 2 2) [bs, bs2] :=
  ⟨_, 2, rfl, Nat.le_refl _, fun _ => ⟨_, 0, rfl, fun i b hb => by
    match i, hb with
    | 0, hb =>
      obtain rfl := Option.some.inj hb
      exact ⟨v, by rw [World.cell?_alloc_at _ _ _ _ rfl]; rfl, h.alloc _⟩
    | 1, hb =>
      obtain rfl := Option.some.inj hb
      exact ⟨v2, by rw [World.cell?_alloc_at _ _ _ _ rfl]; rfl, h2.alloc _⟩⟩⟩
theorem Sum_one {w : World} {g : Nat} (hg : g = w.heap.size) {v : Value} {bs : List UInt8} (h : Rd w v bs) (hn : bs.length ≤ 1099511627776) :
    Calls Tryd.prog 17 #[.slice (some ⟨g, 0, none⟩) 1 1] (w.alloc (.cells #[v] 25)) fun e w' => e = .returned (.int .u16 ((ck bs : Nat) : Int)) ∧ w.alloc (.cells #[v] 25) = w' := by
  subst hg
  have h1 := Sum_any _ [bs] _ (RdL.one h) (by simpa using hn) (by simp)
  simpa using h1
theorem Sum_two {w : World} {g : Nat} (hg : g = w.heap.size) {v v2 : Value} {bs bs2 : List UInt8} (h : Rd w v bs) (h2 : Rd w v2 bs2) (hn : bs.length + bs2.length ≤ 1099511627776) :
    Calls Tryd.prog 17 #[.slice (some ⟨g, 0, none⟩) 2 2] (w.alloc (.cells #[v, v2] 25)) fun e w' => e = .returned (.int .u16 ((ck (bs ++ bs2) : Nat) : Int)) ∧ w.alloc (.cells #[v, v2] 25) = w' := by
  subst hg
  have h1 := Sum_any _ [bs, bs2] _ (RdL.two h h2) (by simpa using hn) (by simp)
  simpa using h1
theorem Valid_one {w : World} {g : Nat} (hg : g = w.heap.size) {v : Value} {bs : List UInt8} (h : Rd w v bs) (hn : bs.length ≤ 1099511627776) :
    Calls Tryd.prog 25 #[.slice (some ⟨g, 0, none⟩) 1 1] (w.alloc (.cells #[v] 25)) fun e w' => e = .returned (.bool (decide (ck bs = 0))) ∧ w.alloc (.cells #[v] 25) = w' := by
  subst hg
  have h1 := Valid_any _ [bs] _ (RdL.one h) (by simpa using hn) (by simp)
  simpa using h1
theorem Valid_two {w : World} {g : Nat} (hg : g = w.heap.size) {v v2 : Value} {bs bs2 : List UInt8} (h : Rd w v bs) (h2 : Rd w v2 bs2) (hn : bs.length + bs2.length ≤ 1099511627776) :
    Calls Tryd.prog 25 #[.slice (some ⟨g, 0, none⟩) 2 2] (w.alloc (.cells #[v, v2] 25)) fun e w' => e = .returned (.bool (decide (ck (bs ++ bs2) = 0))) ∧ w.alloc (.cells #[v, v2] 25) = w' := by
  subst hg
  have h1 := Valid_any _ [bs, bs2] _ (RdL.two h h2) (by simpa using hn) (by simp)
  simpa using h1
end Go.Proofs.YtjnhfabgdegngaaDoor
