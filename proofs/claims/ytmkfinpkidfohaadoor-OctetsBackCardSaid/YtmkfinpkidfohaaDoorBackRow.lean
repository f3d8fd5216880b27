/-
  What is proved: a row of puts of the law's own (structs of three cells), appended to; what the puts are as bytes.
  Conditions: fewer than 2^30 puts.
-/
import Derived.Test.YtmkfinpkidfohaaDoorPutsArg
import Derived.Test.YtmkfinpkidfohaaDoorOwn
namespace Go.Proofs.YtmkfinpkidfohaaDoor
open Go.RowKit

/-- A put: its kind, its number, its slice, and the bytes of that. -/
structure PutV where
  kd : Nat
  n : Nat
  B : Option Addr
  m : Nat
  c : Nat
  ps : List UInt8
def PutV.cells (p : PutV) : List Value := [.int .i64 (p.kd : Int), .int .u32 (p.n : Int), .slice p.B p.m p.c]
/-- Its bytes. -/
def PutV.bytes (p : PutV) : List UInt8 := if p.kd = 1 then [UInt8.ofNat p.n] else if p.kd = 2 then be2 p.n else if p.kd = 3 then be4 p.n else p.ps
/-- What may be put. -/
structure PutV.Ok (w : World) (p : PutV) : Prop where
  kind : 1 ≤ p.kd ∧ p.kd ≤ 4
  num : (p.kd = 1 → p.n < 256) ∧ (p.kd = 2 → p.n < 65536) ∧ p.n < 4294967296
  part : p.kd = 4 → p.m = p.ps.length ∧ 0 < p.ps.length ∧ p.ps.length ≤ 100 ∧ Rd w (.slice p.B p.m p.c) p.ps
theorem PutV.Ok.pos {w : World} {p : PutV} (h : p.Ok w) : 0 < p.bytes.length := by
  unfold PutV.bytes
  split
  · simp
  · split
    · simp [be2]
    · split
      · simp [be4]
      · exact (h.part (by have := h.kind; omega)).2.1
theorem PutV.Ok.le {w : World} {p : PutV} (h : p.Ok w) : p.bytes.length ≤ 100 := by
  unfold PutV.bytes
  split
  · simp
  · split
    · simp [be2]
    · split
      · simp [be4]
      · exact (h.part (by have := h.kind; omega)).2.2.1
/-- All bytes. -/
def wire (l : List PutV) : List UInt8 := l.flatMap PutV.bytes
theorem wire_append (a b : List PutV) : wire (a ++ b) = wire a ++ wire b := by simp [wire]
theorem wire_le {w : World} : ∀ {l : List PutV}, (∀ p ∈ l, p.Ok w) → (wire l).length ≤ 100 * l.length
  | [], _ => by simp [wire]
  | p :: r, h => by
    have h1 := (h p (List.mem_cons_self ..)).le
    have h2 := wire_le (l := r) (fun x hx => h x (List.mem_cons_of_mem _ hx))
    simp only [wire, List.flatMap_cons, List.length_append, List.length_cons] at h2 ⊢
    omega

theorem putinfo : (Tryd.prog.info? 30).map (fun i => (i.zero, i.size, i.bytes)) = some (some (.agg #[.int .i64 0, .int .u32 0, .slice none 0 0]), 3, 40) := by kernel_rfl
theorem cells_len (l : List PutV) : (l.flatMap PutV.cells).length = l.length * 3 := by
  induction l with
  | nil => rfl
  | cons p r ih => simp only [List.flatMap_cons, List.length_append, ih, PutV.cells, List.length_cons, List.length_nil]; omega
theorem append_puts {W : World} {v : Value} {l : List PutV} (ho : W.ownsRow 0 30 3 v l.length (l.flatMap PutV.cells)) (p : PutV) (A : Addr) (c : Nat) (hx : ∀ j u, p.cells[j]? = some u → W.cell? (A.add j) = some u) (hL : l.length ≤ 1048576) :
    ∃ v' W1, (Builtin.append_ #[22, 22] 22 #[v, .slice (some A) 1 c]).run Tryd.prog W = .ok v' W1 ∧ W1.ownsRow 0 30 3 v' (l ++ [p]).length ((l ++ [p]).flatMap PutV.cells) ∧ W.grownBy W1 v.ownBlock ∧ (v'.ownBlock = v.ownBlock ∨ v'.ownBlock = some W.heap.size) := by
  obtain ⟨i0, hi, hz0, hz1, hz2⟩ := info_parts putinfo
  obtain ⟨v', w1, hrun, ho1, hg, _, hat⟩ := run_append_own_at (P := Tryd.prog) W 0 22 22 30 i0 (.agg #[.int .i64 0, .int .u32 0, .slice none 0 0]) 3 40 Tryd.underlying22 hi hz0 hz1 hz2 rfl (by omega) v l.length (l.flatMap PutV.cells) ho A 1 c p.cells rfl
    hx (fun u hu => by simp only [PutV.cells, List.mem_cons, List.not_mem_nil, or_false] at hu; rcases hu with rfl | rfl | rfl <;> rfl) (by simp only [maxLen]; omega) (by omega) (by omega)
  exact ⟨v', w1, hrun, by rw [List.length_append, List.flatMap_append]; simpa using ho1, hg, hat⟩
/-- The cells of a row of puts. -/
theorem putsCell {W : World} {v : Value} {l : List PutV} (ho : W.ownsRow 0 30 3 v l.length (l.flatMap PutV.cells)) {k : Nat} {p : PutV} (hp : l[k]? = some p) :
    ∃ g c, v = .slice (some ⟨g, 0, none⟩) l.length c ∧ l.length ≤ c ∧ W.cell? ⟨g, k * 3, none⟩ = some (.int .i64 (p.kd : Int)) ∧ W.cell? ⟨g, k * 3 + 1, none⟩ = some (.int .u32 (p.n : Int)) ∧ W.cell? ⟨g, k * 3 + 2, none⟩ = some (.slice p.B p.m p.c) := by
  have hk : k < l.length := (List.getElem?_eq_some_iff.1 hp).1
  have hat : ∀ j u, p.cells[j]? = some u → (l.flatMap PutV.cells)[k * 3 + j]? = some u := by
    have : l = l.take k ++ p :: l.drop (k + 1) := by
      have e : l[k] = p := by rw [List.getElem?_eq_getElem hk] at hp; exact Option.some.inj hp
      rw [← e, ← List.drop_eq_getElem_cons hk, List.take_append_drop]
    intro j u hu
    have hj : j < 3 := (List.getElem?_eq_some_iff.1 hu).1
    rw [this, List.flatMap_append, List.getElem?_append_right (by rw [cells_len, List.length_take]; omega), cells_len, List.length_take, Nat.min_eq_left (by omega), show k * 3 + j - k * 3 = j by omega, List.flatMap_cons, List.getElem?_append_left (by exact hj)]
    exact hu
  rcases ho.2 with ⟨_, hn⟩ | ⟨g, cap, cur, rfl, _, hgg, hnc, _⟩
  · omega
  · refine ⟨g, cap, rfl, hnc, ?_, ?_, ?_⟩
    · have h := ho.cells (g := g) rfl (k * 3 + 0) _ (hat 0 _ rfl)
      rw [Addr.add_lit] at h
      simpa using h
    · have h := ho.cells (g := g) rfl (k * 3 + 1) _ (hat 1 _ rfl)
      rw [Addr.add_lit] at h
      simpa using h
    · have h := ho.cells (g := g) rfl (k * 3 + 2) _ (hat 2 _ rfl)
      rw [Addr.add_lit] at h
      simpa using h
/-- The first bytes of a slice. -/
theorem Rd.front' {w : World} {A : Option Addr} {n c m : Nat} {bs : List UInt8} (h : Rd w (.slice A n c) bs) (hm : m ≤ n) : Rd w (.slice A m c) (bs.take m) := by
  obtain ⟨A', c', e, hc, hcell⟩ := h
  cases e
  have hl : (bs.take m).length = m := by rw [List.length_take]; omega
  refine ⟨_, c, by rw [hl], by rw [hl]; omega, fun h0 => ?_⟩
  rw [hl] at h0
  obtain ⟨g, o, e, hi⟩ := hcell (by omega)
  refine ⟨g, o, e, fun i u hu => hi i u ?_⟩
  rw [List.getElem?_take] at hu
  split at hu
  · exact hu
  · cases hu
end Go.Proofs.YtmkfinpkidfohaaDoor
