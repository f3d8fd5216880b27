/-
  What is proved: a row of bytes of the law's own: made by append, written over.
  Conditions: fewer than 2^40 bytes.
-/
import Derived.Test.YtmkfinpkidfohaaDoorStr
namespace Go.Proofs.YtmkfinpkidfohaaDoor
open Go.RowKit

/-- An append of bytes to a row of one's own. -/
theorem append_own {w : World} {v : Value} {bs : List UInt8} (ho : w.ownsRow 0 5 1 v bs.length (bs.map B8)) (xs : List UInt8) (u : Value) (hx : Rd w u xs) (hL : bs.length + xs.length ≤ 1099511627776) :
    ∃ v' w1, (Builtin.append_ #[25, 25] 25 #[v, u]).run Tryd.prog w = .ok v' w1 ∧ w1.ownsRow 0 5 1 v' (bs ++ xs).length ((bs ++ xs).map B8) ∧ w.grownBy w1 v.ownBlock ∧ (v'.ownBlock = v.ownBlock ∨ v'.ownBlock = some w.heap.size) := by
  obtain ⟨A, c, rfl, hc, hcell⟩ := hx
  cases A with
  | none =>
    have hx0 : xs = [] := by
      rcases Nat.eq_zero_or_pos xs.length with h0 | h0
      · exact List.eq_nil_of_length_eq_zero h0
      · obtain ⟨g, o, e, _⟩ := hcell h0
        cases e
    subst hx0
    obtain ⟨i0, hi, hz0, hz1, hz2⟩ := info_parts u8info
    have hrun : (Builtin.append_ #[25, 25] 25 #[v, .slice none 0 c]).run Tryd.prog w = .ok v w := by
      rcases ho.2 with ⟨rfl, hn⟩ | ⟨g, cap, cur, rfl, _, _, hnc, _⟩
      · simp [Builtin.append_, run_underlying Tryd.underlying25, sizeOf, typeInfo, hi, Builtin.lenOf, Builtin.firstCells]
      · simp [Builtin.append_, run_underlying Tryd.underlying25, sizeOf, typeInfo, hi, Builtin.lenOf, Builtin.firstCells, hnc, storeCells]
    exact ⟨v, w, hrun, by rw [List.append_nil]; exact ho, World.grownBy.refl w _, .inl rfl⟩
  | some ad =>
    have hcl : ∀ i u, xs[i]? = some u → w.cell? (ad.add i) = some (B8 u) := by
      intro i u hu
      have h0 : 0 < xs.length := by
        have := (List.getElem?_eq_some_iff.1 hu).1
        omega
      obtain ⟨g, o, e, hi⟩ := hcell h0
      obtain rfl := Option.some.inj e
      rw [Addr.add_lit]
      exact hi i u hu
    obtain ⟨i0, hi, hz0, hz1, hz2⟩ := info_parts u8info
    obtain ⟨v', w1, hrun, ho1, hg, _, hat⟩ := run_append_own_at (P := Tryd.prog) w 0 25 25 5 i0 (.int .u8 0) 1 1 Tryd.underlying25 hi hz0 hz1 hz2 rfl (by omega) v bs.length (bs.map B8) ho ad xs.length c (xs.map B8) (by simp)
      (fun j u hu => by obtain ⟨x, hx', rfl⟩ := getElem_B8 hu; exact hcl j x hx') (oneCell_B8 xs) (by simp only [maxLen]; omega) (by omega) (by omega)
    exact ⟨v', w1, hrun, by rw [List.length_append, List.map_append]; exact ho1, hg, hat⟩

/-- A row of one's own that is one block. -/
structure Row (w : World) (g cap : Nat) (bs : List UInt8) : Prop where
  ex : ∃ cur : Array Value, w.heap[g]? = some (.cells cur 5 (0, 0)) ∧ cur.size = cap ∧ cur.toList.take bs.length = bs.map B8
  fits : bs.length ≤ cap
theorem Row.rd {w : World} {g cap : Nat} {bs : List UInt8} (h : Row w g cap bs) : Rd w (.slice (some ⟨g, 0, none⟩) bs.length cap) bs := by
  obtain ⟨cur, h1, h2, h3⟩ := h.ex
  refine ⟨_, cap, rfl, h.fits, fun _ => ⟨g, 0, rfl, fun i u hu => ?_⟩⟩
  rw [Nat.zero_add, cell_of_row w g i _ _ _ h1]
  have hi : i < bs.length := (List.getElem?_eq_some_iff.1 hu).1
  have h4 : (cur.toList.take bs.length)[i]? = some (B8 u) := by rw [h3, List.getElem?_map, hu]; rfl
  rw [List.getElem?_take, if_pos hi] at h4
  simpa using h4
/-- append(v, u...) where 'v' is a row with a block: the answer has one, too. -/
theorem append_row {w : World} {g0 c0 : Nat} {bs : List UInt8} (hr : Row w g0 c0 bs) (hm : c0 ≤ maxLen) (xs : List UInt8) (u : Value) (hx : Rd w u xs) (hL : bs.length + xs.length ≤ 1099511627776) :
    ∃ g c w1, (Builtin.append_ #[25, 25] 25 #[.slice (some ⟨g0, 0, none⟩) bs.length c0, u]).run Tryd.prog w = .ok (.slice (some ⟨g, 0, none⟩) (bs ++ xs).length c) w1 ∧ Row w1 g c (bs ++ xs) ∧ w.grownBy w1 (some g0) ∧ (g = g0 ∨ g = w.heap.size) := by
  obtain ⟨cur, h1, h2, h3⟩ := hr.ex
  have ho : w.ownsRow 0 5 1 (.slice (some ⟨g0, 0, none⟩) bs.length c0) bs.length (bs.map B8) := ⟨by simp, .inr ⟨g0, c0, cur, rfl, Nat.zero_le _, h1, hr.fits, hm, by rw [h2, Nat.mul_one], by rw [Nat.mul_one]; exact h3⟩⟩
  obtain ⟨v', w1, hrun, ho1, hg, hat⟩ := append_own ho xs u hx hL
  rcases ho1.2 with ⟨e, _⟩ | ⟨g, c, cur', e, _, k1, k2, _, k4, k5⟩
  · subst e
    rcases hat with h | h
    · simp [Value.ownBlock] at h
    · simp [Value.ownBlock] at h
  · subst e
    refine ⟨g, c, w1, hrun, ⟨⟨cur', k1, by rw [k4, Nat.mul_one], by rw [Nat.mul_one] at k5; exact k5⟩, k2⟩, hg, ?_⟩
    rcases hat with h | h
    · exact .inl (by simpa [Value.ownBlock] using h)
    · exact .inr (by simpa [Value.ownBlock] using h)

/-- A block of bytes of which nothing but its size is known. -/
def Any (w : World) (g n : Nat) : Prop := ∃ cur : Array Value, w.heap[g]? = some (.cells cur 5 (0, 0)) ∧ n ≤ cur.size
theorem Any.cell {w : World} {g n : Nat} (h : Any w g n) {k : Nat} (hk : k < n) : (∃ v, w.cell? ⟨g, k, none⟩ = some v) ∧ w.frozen? ⟨g, k, none⟩ = false := by
  obtain ⟨cur, h1, h2⟩ := h
  refine ⟨⟨cur[k]'(by omega), ?_⟩, by simp [World.frozen?, h1]⟩
  rw [cell_of_row w g k _ _ _ h1]
  simp
theorem Any.set {w : World} {g n : Nat} (h : Any w g n) (k : Nat) (v : Value) : Any (w.setCell ⟨g, k, none⟩ v) g n := by
  obtain ⟨cur, h1, h2⟩ := h
  exact ⟨cur.setIfInBounds k v, by simp [World.setCell, Array.getElem?_modify, h1], by simpa using h2⟩
end Go.Proofs.YtmkfinpkidfohaaDoor
