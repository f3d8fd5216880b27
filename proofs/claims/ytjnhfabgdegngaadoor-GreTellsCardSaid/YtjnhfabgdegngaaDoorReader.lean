/-
  What is proved: the reader of octets (A1) by contract: Read, U8, U16, U32, Bytes, Rest, Left, Done.
  Conditions: the reader holds fewer than 2^40 bytes.
-/
import Derived.Test.YtjnhfabgdegngaaDoorMem
namespace Go.Proofs.YtjnhfabgdegngaaDoor
open Go.RowKit

/-- At 'p' lies a reader that has the bytes 'bs' left. -/
def Rdr (w : World) (p : Addr) (bs : List UInt8) : Prop :=
  ∃ A, w.cell? p = some (.slice A bs.length bs.length) ∧ w.frozen? p = false ∧ (0 < bs.length → ∃ g o, A = some ⟨g, o, none⟩ ∧ ∀ i u, bs[i]? = some u → w.cell? ⟨g, o + i, none⟩ = some (B8 u))

theorem Read_any (v : Value) (bs : List UInt8) (w : World) (hr : Rd w v bs) (hn : bs.length ≤ 1099511627776) :
    Calls Tryd.prog 23 #[v] w fun e w' => e = .returned (.pointer (some ⟨w.heap.size + 1, 0, none⟩)) ∧
      (w.alloc (bytesObj bs)).alloc (.cells #[.slice (some ⟨w.heap.size, 0, none⟩) bs.length bs.length] 86) = w' := by
  have HO := Lib.hid (own_any v bs w hr hn)
  clear hr
  go_enter Tryd.func23, Tryd.ntmps23
  go_wp2_with fail
  refine HO.out.mono ?_
  rintro e w' ⟨rfl, rfl⟩
  go_wp2_with fail
  go_ret
  exact ⟨rfl, rfl⟩

def cutA (A : Option Addr) (L n : Nat) : Option Addr := if L = n then A else A.map (·.add n)

theorem take_ok (p : Addr) (A : Option Addr) (L n : Nat) (w : World) (hc : w.cell? p = some (.slice A L L)) (hf : w.frozen? p = false) (hn : n ≤ L) (_hL : L ≤ 1099511627776) :
    Calls Tryd.prog 53 #[.pointer (some p), .int .i64 n] w fun e w' => e = .returned (.tuple #[.slice A n n, .nilIface]) ∧ w.setCell p (.slice (cutA A L n) (L - n) (L - n)) = w' := by
  by_cases hLn : L = n
  · subst hLn
    have HX : Hid (Value.slice A 0 0 = .slice (cutA A L L) (L - L) (L - L)) := by show _ = _; simp [cutA]
    go_enter Tryd.func53, Tryd.ntmps53
    go_wp2_with fail
    go_ret2
    exact ⟨rfl, by rw [HX.out]⟩
  · have HX : Hid (Value.slice (Option.map (fun x => x.add n) A) (L - n) (L - n) = .slice (cutA A L n) (L - n) (L - n)) := by show _ = _; simp [cutA, hLn]
    go_enter Tryd.func53, Tryd.ntmps53
    go_wp2_with fail
    go_ret2
    exact ⟨rfl, by rw [HX.out]⟩

def octetsWord : ByteArray := ⟨#[111, 99, 116, 101, 116, 115]⟩
/-- What a layer's error is made of: the name and the number. -/
def wrongObj (s : ByteArray) (n : Int) : Obj := .cells #[.string s, .iface 32 (.int .i64 n)] 76
theorem chain_one (w : World) (s : ByteArray) (n : Int) : Chain (w.alloc (wrongObj s n)) n [s] (.iface 74 (.pointer (some ⟨w.heap.size, 0, none⟩))) := chain_wrapped s (chain_errno w n)

theorem take_short (p : Addr) (A : Option Addr) (L : Nat) (n : Int) (w : World) (hc : w.cell? p = some (.slice A L L)) (hn : (L : Int) < n) :
    Calls Tryd.prog 53 #[.pointer (some p), .int .i64 n] w fun e w' => e = .returned (.tuple #[.slice none 0 0, .iface 74 (.pointer (some ⟨w.heap.size, 0, none⟩))]) ∧ w.alloc (wrongObj octetsWord 2) = w' := by
  go_enter Tryd.func53, Tryd.ntmps53
  go_wp2_with fail
  refine (wrap_any _ _ _ _).mono ?_
  rintro e w' ⟨rfl, rfl⟩
  go_wp2_with fail
  go_ret2
  exact ⟨rfl, rfl⟩

section
variable {w w' : World} {p : Addr} {bs : List UInt8} {q : Addr → Prop}
theorem Rdr.keep (h : Rdr w p bs) (hf : w'.frozen? p = w.frozen? p) (hk : ∀ x u, w.cell? x = some u → (x = p ∨ ∃ b, u = B8 b) → w'.cell? x = some u) : Rdr w' p bs := by
  obtain ⟨A, hc, hz, hr⟩ := h
  exact ⟨A, hk _ _ hc (.inl rfl), hf.trans hz, fun h0 => by
    obtain ⟨g, o, e, hi⟩ := hr h0
    exact ⟨g, o, e, fun i u hu => hk _ _ (hi i u hu) (.inr ⟨u, rfl⟩)⟩⟩
theorem Rdr.below (h : Rdr w p bs) (hb : Below w.heap.size w w') : Rdr w' p bs :=
  h.keep (by obtain ⟨A, hc, _⟩ := h; exact hb.frozen (World.block_lt_of_cell? w p hc)) fun x _ hu _ => (hb.cell (World.block_lt_of_cell? w x hu)).trans hu
theorem Rdr.fr (h : Rdr w p bs) (hf : Fr q w w') (hp : ¬ q p) (hq : ∀ x u, w.cell? x = some (B8 u) → ¬ q x) : Rdr w' p bs :=
  h.keep (by obtain ⟨A, hc, _⟩ := h; exact hf.frozen p (World.block_lt_of_cell? w p hc) hp) fun x u hu hx => (hf.cell x (World.block_lt_of_cell? w x hu) (by
    rcases hx with rfl | ⟨b, rfl⟩
    · exact hp
    · exact hq x b hu)).trans hu
theorem Rdr.not_byte (h : Rdr w p bs) : ∀ u, w.cell? p ≠ some (B8 u) := by
  obtain ⟨A, hc, _⟩ := h
  intro u e
  rw [hc] at e
  cases e
theorem Rdr.at_ (h : Rdr w p bs) : p.block < w.heap.size := by obtain ⟨A, hc, _⟩ := h; exact World.block_lt_of_cell? w p hc
end

theorem Rdr.of_Read (w : World) (bs : List UInt8) : Rdr ((w.alloc (bytesObj bs)).alloc (.cells #[.slice (some ⟨w.heap.size, 0, none⟩) bs.length bs.length] 86)) ⟨w.heap.size + 1, 0, none⟩ bs := by
  refine ⟨some ⟨w.heap.size, 0, none⟩, ?_, ?_, fun _ => ⟨w.heap.size, 0, rfl, fun i u hu => ?_⟩⟩
  · rw [World.cell?_alloc_at _ _ _ _ (by simp)]; rfl
  · simp
  · rw [World.cell?_alloc_lt _ _ _ (by simp), Nat.zero_add]
    exact bytesCell (bytesObj_new w bs) i u hu

/-- What a cut leaves. -/
theorem Rdr.cut {w : World} {p : Addr} {bs : List UInt8} {A : Option Addr} (n : Nat) (hn : n ≤ bs.length) (hc : w.cell? p = some (.slice A bs.length bs.length)) (hz : w.frozen? p = false)
    (hr : 0 < bs.length → ∃ g o, A = some ⟨g, o, none⟩ ∧ ∀ i u, bs[i]? = some u → w.cell? ⟨g, o + i, none⟩ = some (B8 u)) :
    Rdr (w.setCell p (.slice (cutA A bs.length n) (bs.length - n) (bs.length - n))) p (bs.drop n) ∧
      ∀ x u, w.cell? x = some (B8 u) → (w.setCell p (.slice (cutA A bs.length n) (bs.length - n) (bs.length - n))).cell? x = some (B8 u) := by
  have hk : ∀ x u, w.cell? x = some (B8 u) → (w.setCell p (.slice (cutA A bs.length n) (bs.length - n) (bs.length - n))).cell? x = some (B8 u) := by
    intro x u hu
    rw [World.cell?_setCell_other _ _ _ _ (fun e => by subst e; rw [hc] at hu; cases hu)]
    exact hu
  refine ⟨⟨cutA A bs.length n, ?_, ?_, fun h0 => ?_⟩, hk⟩
  · rw [World.cell?_setCell_same _ _ _ hc, List.length_drop]
  · rw [frozen_setCell]; exact hz
  · rw [List.length_drop] at h0
    obtain ⟨g, o, rfl, hi⟩ := hr (by omega)
    refine ⟨g, o + n, ?_, fun i u hu => ?_⟩
    · simp only [cutA]; rw [if_neg (by omega)]; simp [Addr.add_lit]
    · rw [List.getElem?_drop] at hu
      rw [Nat.add_assoc]
      exact hk _ _ (hi (n + i) u hu)

end Go.Proofs.YtjnhfabgdegngaaDoor
