/-
  What is proved: bytes of a slice as a text; octets.Read as facts.
  Conditions: the bytes are fewer than 2^40.
-/
import Derived.Test.YtjnhfabgdegngaaDoorWrites
import Derived.Laws.IdiomStrings
namespace Go.Proofs.YtjnhfabgdegngaaDoor
open Go.RowKit

/-- octets.Read, as facts. -/
theorem Read_facts (v : Value) (bs : List UInt8) (w : World) (hr : Rd w v bs) (hn : bs.length ≤ 1099511627776) :
    Calls Tryd.prog 23 #[v] w fun e w' => ∃ b, e = .returned (.pointer (some ⟨b, 0, none⟩)) ∧ w.heap.size ≤ b ∧ Rdr w' ⟨b, 0, none⟩ bs ∧ Below w.heap.size w w' := by
  refine (Read_any v bs w hr hn).mono ?_
  rintro e w' ⟨rfl, rfl⟩
  exact ⟨_, rfl, by omega, Rdr.of_Read w bs, ((Below.refl _ _).alloc (Nat.le_refl _) _).alloc (by simp) _⟩
/-- What a layer's error leaves, as facts. -/
theorem wrong_facts {w w' : World} (n : Int) (s : ByteArray) (h : w.alloc (wrongObj s n) = w') : Chain w' n [s] (.iface 74 (.pointer (some ⟨w.heap.size, 0, none⟩))) ∧ Below w.heap.size w w' := by
  subst h
  exact ⟨chain_one w s n, (Below.refl _ _).alloc (Nat.le_refl _) _⟩
theorem done_facts {w w' : World} {bs : List UInt8} (h : w.alloc (bytesObj bs) = w') : Rd w' (.slice (some ⟨w.heap.size, 0, none⟩) bs.length bs.length) bs ∧ Below w.heap.size w w' := by
  subst h
  exact ⟨Rd.of_obj (bytesObj_new w bs) (Nat.le_refl _), (Below.refl _ _).alloc (Nat.le_refl _) _⟩
theorem Chain.fr {q : Addr → Prop} {w w' : World} {n : Int} (hf : Fr q w w') (hq : ∀ a, q a → a.block < w.heap.size → ∃ B k d, w.cell? a = some (.slice B k d)) :
    ∀ {l : List ByteArray} {v : Value}, Chain w n l v → Chain w' n l v
  | [], _, h => h
  | _ :: _, _, ⟨b, x, hv, h0, h1, h2⟩ => by
    obtain ⟨T, u, hx⟩ := h2.held
    refine ⟨b, x, hv, (hf.cell _ (World.block_lt_of_cell? w _ h0) (fun e => ?_)).trans h0, (hf.cell _ (World.block_lt_of_cell? w _ h1) (fun e => ?_)).trans h1, Chain.fr hf hq h2⟩
    · obtain ⟨B, k, d, h⟩ := hq _ e (World.block_lt_of_cell? w _ h0)
      rw [h0] at h; cases h
    · obtain ⟨B, k, d, h⟩ := hq _ e (World.block_lt_of_cell? w _ h1)
      rw [h1, hx] at h; cases h
theorem Wtr.slice {w : World} {p : Addr} {row : Option Nat} {bs : List UInt8} (h : Wtr w p row bs) : ∃ A n c, w.cell? p = some (.slice A n c) := by
  obtain ⟨v, hc, _, ho, _⟩ := h
  rcases ho.2 with ⟨rfl, _⟩ | ⟨g, cap, cur, rfl, _⟩
  · exact ⟨_, _, _, hc⟩
  · exact ⟨_, _, _, hc⟩
/-- Another reader's steps are none of this one's. -/
theorem Rdr.other {w w' : World} {p q : Addr} {bs cs : List UInt8} (h : Rdr w p bs) (k : Rdr w q cs) (hf : Fr (· = q) w w') (hne : p ≠ q) : Rdr w' p bs :=
  h.fr hf hne (fun x u hu e => k.not_byte u (by rw [← e]; exact hu))
end Go.Proofs.YtjnhfabgdegngaaDoor
