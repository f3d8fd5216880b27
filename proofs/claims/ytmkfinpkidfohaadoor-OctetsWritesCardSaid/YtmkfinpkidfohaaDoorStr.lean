/-
  What is proved: bytes of a slice as a text; octets.Read as facts.
  Conditions: the bytes are fewer than 2^40.
-/
import Derived.Test.YtmkfinpkidfohaaDoorWrites
import Derived.Laws.IdiomStrings
namespace Go.Proofs.YtmkfinpkidfohaaDoor
open Go.RowKit

/-- A text of bytes. -/
def txt (bs : List UInt8) : ByteArray := ⟨bs.toArray⟩

theorem convert_rd {w : World} {v : Value} {bs : List UInt8} (h : Rd w v bs) : (convert 25 9 v).run Tryd.prog w = .ok (.string (txt bs)) w := by
  obtain ⟨A, c, rfl, hc, hcell⟩ := h
  cases A with
  | none =>
    have hx0 : bs = [] := by
      rcases Nat.eq_zero_or_pos bs.length with h0 | h0
      · exact List.eq_nil_of_length_eq_zero h0
      · obtain ⟨g, o, e, _⟩ := hcell h0
        cases e
    subst hx0
    rw [List.length_nil, run_convert_bytes_string w 25 9 5 none 0 c Tryd.underlying25 Tryd.underlying5 Tryd.underlying9]
    rfl
  | some ad =>
    have hcl : ∀ i u, bs[i]? = some u → w.cell? (ad.add i) = some (B8 u) := by
      intro i u hu
      have h0 : 0 < bs.length := by
        have := (List.getElem?_eq_some_iff.1 hu).1
        omega
      obtain ⟨g, o, e, hi⟩ := hcell h0
      obtain rfl := Option.some.inj e
      rw [Addr.add_lit]
      exact hi i u hu
    exact run_convert_bytes_back w 25 9 5 ad c bs Tryd.underlying25 Tryd.underlying5 Tryd.underlying9 (fun j hj => hcl j _ (List.getElem?_eq_getElem hj))

/-- octets.Read, as facts. -/
theorem Read_facts (v : Value) (bs : List UInt8) (w : World) (hr : Rd w v bs) (hn : bs.length ≤ 1099511627776) :
    Calls Tryd.prog 12 #[v] w fun e w' => ∃ b, e = .returned (.pointer (some ⟨b, 0, none⟩)) ∧ w.heap.size ≤ b ∧ Rdr w' ⟨b, 0, none⟩ bs ∧ Below w.heap.size w w' := by
  refine (Read_any v bs w hr hn).mono ?_
  rintro e w' ⟨rfl, rfl⟩
  exact ⟨_, rfl, by omega, Rdr.of_Read w bs, ((Below.refl _ _).alloc (Nat.le_refl _) _).alloc (by simp) _⟩
/-- What a layer's error leaves, as facts. -/
theorem wrong_facts {w w' : World} (n : Int) (s : ByteArray) (h : w.alloc (wrongObj s n) = w') : Chain w' n [s] (.iface 69 (.pointer (some ⟨w.heap.size, 0, none⟩))) ∧ Below w.heap.size w w' := by
  subst h
  exact ⟨chain_one w s n, (Below.refl _ _).alloc (Nat.le_refl _) _⟩
theorem done_facts {w w' : World} {bs : List UInt8} (h : w.alloc (bytesObj bs) = w') : Rd w' (.slice (some ⟨w.heap.size, 0, none⟩) bs.length bs.length) bs ∧ Below w.heap.size w w' := by
  subst h
  exact ⟨Rd.of_obj (bytesObj_new w bs) (Nat.le_refl _), (Below.refl _ _).alloc (Nat.le_refl _) _⟩
theorem Chain.fr {q : Addr → Prop} {w w' : World} {n : Int} (hf : Fr q w w') (hq : ∀ a, q a → a.block < w.heap.size → ∃ B k d, w.cell? a = some (.slice B k d)) :
    ∀ {l : List ByteArray} {v : Value}, Chain w n l v → Chain w' n l v
  | [], _, h => h
  | _ :: _, _, ⟨b, x, hv, h0, h1, h2⟩ => by
    obtain ⟨T, u, hx⟩ := h2.held
    refine ⟨b, x, hv, (hf.cell _ (World.block_lt_of_cell? w _ h0) (fun e => ?_)).trans h0, (hf.cell _ (World.block_lt_of_cell? w _ h1) (fun e => ?_)).trans h1, Chain.fr hf hq h2⟩
    · obtain ⟨B, k, d, h⟩ := hq _ e (World.block_lt_of_cell? w _ h0)
      rw [h0] at h; cases h
    · obtain ⟨B, k, d, h⟩ := hq _ e (World.block_lt_of_cell? w _ h1)
      rw [h1, hx] at h; cases h
theorem Wtr.slice {w : World} {p : Addr} {row : Option Nat} {bs : List UInt8} (h : Wtr w p row bs) : ∃ A n c, w.cell? p = some (.slice A n c) := by
  obtain ⟨v, hc, _, ho, _⟩ := h
  rcases ho.2 with ⟨rfl, _⟩ | ⟨g, cap, cur, rfl, _⟩
  · exact ⟨_, _, _, hc⟩
  · exact ⟨_, _, _, hc⟩
/-- Another reader's steps are none of this one's. -/
theorem Rdr.other {w w' : World} {p q : Addr} {bs cs : List UInt8} (h : Rdr w p bs) (k : Rdr w q cs) (hf : Fr (· = q) w w') (hne : p ≠ q) : Rdr w' p bs :=
  h.fr hf hne (fun x u hu e => k.not_byte u (by rw [← e]; exact hu))
theorem min_run {P : Program} (ats : Array TypeId) (ty : TypeId) (a b k : Int) (h : k = min a b) (W : World) : (Builtin.min_ ats ty #[.int .i64 a, .int .i64 b]).run P W = .ok (.int .i64 k) W := by
  subst h
  by_cases hba : b < a
  · simp [Builtin.min_, Builtin.min2, hba]
    omega
  · simp [Builtin.min_, Builtin.min2, hba]
    omega
theorem txt_append (a b : List UInt8) : txt a ++ txt b = txt (a ++ b) := by
  apply ByteArray.ext
  simp [txt]
theorem txt_size (a : List UInt8) : (txt a).size = a.length := by simp [txt, ByteArray.size]
theorem below_to {B B' : Nat} {a b c : World} (h : Below B a b) (k : Below B' b c) (hB : B ≤ B') : Below B a c := h.trans (k.mono hB)
end Go.Proofs.YtmkfinpkidfohaaDoor
