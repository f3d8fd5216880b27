/-
  What is proved: Sum and Valid of one part, and of two.
  Conditions: fewer than 2^40 bytes.
-/
import Derived.Test.YtnjohgfhagoppaaDoorSum
namespace Go.Proofs.YtnjohgfhagoppaaDoor
open Go.RowKit

theorem Rd.alloc {w : World} {v : Value} {bs : List UInt8} (h : Rd w v bs) (o : Obj) : Rd (w.alloc o) v bs := h.below ((Below.refl _ _).alloc (Nat.le_refl _) o)
theorem RdL.nil (w : World) : RdL w (.slice none 0 0) [] := ⟨none, 0, rfl, Nat.le_refl _, fun h => absurd h (by simp)⟩
theorem RdL.one {w : World} {v : Value} {bs : List UInt8} (h : Rd w v bs) : RdL (w.alloc (.cells #[v] 23)) (.slice (some ⟨w.heap.size, 0, none⟩) 1 1) [bs] :=
  ⟨_, 1, rfl, Nat.le_refl _, fun _ => ⟨_, 0, rfl, fun i b hb => by
    match i, hb with
    | 0, hb =>
      obtain rfl := Option.some.inj hb
      exact ⟨v, by rw [World.cell?_alloc_at _ _ _ _ rfl]; rfl, h.alloc _⟩⟩⟩
theorem RdL.two {w : World} {v v2 : Value} {bs bs2 : List UInt8} (h : Rd w v bs) (h2 : Rd w v2 bs2) : RdL (w.alloc (.cells #[v, v2] 23)) (.slice (some ⟨w.heap.size, 0, none⟩) 2 2) [bs, bs2] :=
  ⟨_, 2, rfl, Nat.le_refl _, fun _ => ⟨_, 0, rfl, fun i b hb => by
    match i, hb with
    | 0, hb =>
      obtain rfl := Option.some.inj hb
      exact ⟨v, by rw [World.cell?_alloc_at _ _ _ _ rfl]; rfl, h.alloc _⟩
    | 1, hb =>
      obtain rfl := Option.some.inj hb
      exact ⟨v2, by rw [World.cell?_alloc_at _ _ _ _ rfl]; rfl, h2.alloc _⟩⟩⟩
end Go.Proofs.YtnjohgfhagoppaaDoor
