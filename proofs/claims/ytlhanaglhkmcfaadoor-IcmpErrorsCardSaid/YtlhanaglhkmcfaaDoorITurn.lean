/-
  What is proved: blocks of bytes; a packet of one's own and its Bytes in the spelling of the laws' walks; sums of rows of which one byte is turned.
  Conditions: the packet's numbers fit their types.
-/
import Derived.Test.YtlhanaglhkmcfaaDoorIMsg
namespace Go.Proofs.YtlhanaglhkmcfaaDoor
open Go.RowKit

/-- A block that holds just these bytes. -/
def BAt (W : World) (g : Nat) (l : List UInt8) : Prop := W.heap[g]? = some (bytesObj l)
section
variable {W W' : World} {g : Nat} {l : List UInt8}
theorem BAt.lt (h : BAt W g l) : g < W.heap.size := (Array.getElem?_eq_some_iff.1 h).1
theorem BAt.below (h : BAt W g l) (hb : Below W.heap.size W W') : BAt W' g l := (hb.block _ h.lt).trans h
theorem BAt.rd (h : BAt W g l) : Rd W (.slice (some ⟨g, 0, none⟩) l.length l.length) l := Rd.of_obj h (Nat.le_refl _)
theorem BAt.cell (h : BAt W g l) (i : Nat) (u : UInt8) (hu : l[i]? = some u) : W.cell? ⟨g, i, none⟩ = some (.int .u8 (u.toNat : Int)) := bytesCell h i u hu
theorem BAt.free (h : BAt W g l) (i : Nat) : W.frozen? ⟨g, i, none⟩ = false := by
  have h' : W.heap[g]? = some (bytesObj l) := h
  unfold bytesObj at h'
  simp [World.frozen?, h']
theorem BAt.set (h : BAt W g l) (i : Nat) (x : UInt8) : BAt (W.setCell ⟨g, i, none⟩ (B8 x)) g (l.set i x) := by
  have h' : W.heap[g]? = some (bytesObj l) := h
  unfold BAt
  rw [heap_set, h']
  simp [bytesObj, List.map_set]
theorem BAt.chain {n : Int} {k : List ByteArray} {v : Value} (h : BAt W g l) (hc : Chain W n k v) (i : Nat) (x : Value) : Chain (W.setCell ⟨g, i, none⟩ x) n k v := by
  have hcell : ∀ u, W.cell? ⟨g, i, none⟩ = some u → ∃ y, u = B8 y := by
    intro u hu
    rw [cell_of_row W g _ _ _ _ h] at hu
    have hu' : (l.map B8)[i]? = some u := by simpa using hu
    obtain ⟨y, _, e⟩ := getElem_B8 hu'
    exact ⟨y, e⟩
  refine hc.fr2 (Fr.of_set (p := (· = ⟨g, i, none⟩)) W _ x rfl) (fun a s ha e => ?_) (fun a T u ha e => ?_)
  · subst ha
    obtain ⟨y, hy⟩ := hcell _ e
    cases hy
  · subst ha
    obtain ⟨y, hy⟩ := hcell _ e
    cases hy
end
theorem rd_set {W : World} {G n c : Nat} {bs : List UInt8} (h : Rd W (.slice (some ⟨G, 0, none⟩) n c) bs) {g : Nat} (hne : G ≠ g) (i : Nat) (x : Value) : Rd (W.setCell ⟨g, i, none⟩ x) (.slice (some ⟨G, 0, none⟩) n c) bs := by
  obtain ⟨A, c', e, hc, hi⟩ := h
  refine ⟨A, c', e, hc, fun h0 => ?_⟩
  obtain ⟨g', o, e1, hi⟩ := hi h0
  refine ⟨g', o, e1, fun j u hu => ?_⟩
  cases e
  cases e1
  rw [World.cell?_setCell_other _ _ _ _ (fun e => hne (by injection e with h1 h2 h3; first | exact h1 | exact h1.symm))]
  exact hi j u hu
theorem told_ip {W : World} {m : Nat} {l : List ByteArray} {v : Value} (hm : m < 14) (hz : (text m l).size ≤ 1000000000) (hc : Chain W m l v) (t : ByteArray) (ht : text m l = t) :
    Calls Tryd.prog 13 #[v] W fun e w' => e = .returned (.string t) ∧ Below W.heap.size W w' := by
  subst ht
  refine (told_any m hm l v W hz hc).mono ?_
  rintro e w' ⟨rfl, k, rfl⟩
  exact ⟨rfl, ⟨rfl, rfl, rfl, Nat.le_refl _, fun _ _ => rfl⟩⟩
theorem ibelow_on {n : Nat} {w a b : World} (h : Below n w a) (hn : w.heap.size = n) (k : Below a.heap.size a b) : Below n w b := by subst hn; exact below_to h k h.size
theorem rd_row {W : World} {G n c : Nat} {bs : List UInt8} (h : Rd W (.slice (some ⟨G, 0, none⟩) n c) bs) {g : Nat} (hne : G ≠ g) (cs : Array Value) : Rd (W.setRow g cs) (.slice (some ⟨G, 0, none⟩) n c) bs := by
  obtain ⟨A, c', e, hc, hi⟩ := h
  refine ⟨A, c', e, hc, fun h0 => ?_⟩
  obtain ⟨g', o, e1, hi⟩ := hi h0
  refine ⟨g', o, e1, fun j u hu => ?_⟩
  cases e
  cases e1
  rw [World.cell?_of_block (setRow_other W g cs hne)]
  exact hi j u hu
theorem front_any {w : World} {A : Option Addr} {c : Nat} {bs : List UInt8} (h : Rd w (.slice A bs.length c) bs) (k : Nat) : Rd w (.slice A (bs.take k).length c) (bs.take k) := by
  by_cases hk : k ≤ bs.length
  · have e : (bs.take k).length = k := by rw [List.length_take]; omega
    rw [e]
    exact h.front hk
  · rw [List.take_of_length_le (by omega)]
    exact h
/-- A packet of one's own: at most three thousand bytes. -/
structure Ip.Own (q : Ip) : Prop where
  inn : q.In
  few : q.b.length ≤ 3000
theorem bytes_ok (q : Ip) (hq : q.Own) (hn : q.bad = 0) (A : Option Addr) (k : Nat) (w : World) (hr : Rd w (.slice A q.b.length k) q.b) :
    Calls Tryd.prog 10 #[.agg #[.int .u8 q.tos, .int .u16 q.id, .bool q.df, .bool q.mf, .int .i64 q.off, .int .u8 q.ttl, .int .u8 q.proto, .int .u32 q.src, .int .u32 q.dst, .slice A q.b.length k]] w
      fun e w' => ∃ b, e = .returned (.tuple #[.slice (some ⟨b, 0, none⟩) q.bs.length q.bs.length, .nilIface]) ∧ w.heap.size ≤ b ∧ BAt w' b q.bs ∧ Below w.heap.size w w' := by
  rw [Ip.bs_len]
  exact (vBytes_ok q hq.inn hn A k w hr).mono fun _ _ ⟨b, he, h1, h2, h3⟩ => ⟨b, by rw [he], h1, h2, h3⟩
theorem bytes_bad (q : Ip) (hq : q.Own) (hn : q.bad ≠ 0) (A : Option Addr) (k : Nat) (w : World) :
    Calls Tryd.prog 10 #[.agg #[.int .u8 q.tos, .int .u16 q.id, .bool q.df, .bool q.mf, .int .i64 q.off, .int .u8 q.ttl, .int .u8 q.proto, .int .u32 q.src, .int .u32 q.dst, .slice A q.b.length k]] w
      fun e w' => ∃ b, e = .returned (.tuple #[.slice none 0 0, .iface 87 (.pointer (some ⟨b, 0, none⟩))]) ∧ Chain w' q.bad [ipWord] (.iface 87 (.pointer (some ⟨b, 0, none⟩))) ∧ Below w.heap.size w w' :=
  vBytes_bad q hn A k w (by have := hq.few; omega)
theorem Ip.Own.bs_le {q : Ip} (h : q.Own) : q.bs.length ≤ 3020 := by rw [Ip.bs_len]; have := h.few; omega
theorem Ip.bs_ge (q : Ip) : 20 ≤ q.bs.length := by rw [Ip.bs_len]; omega
/-- One byte of a row, turned. -/
theorem wsum_set : ∀ (h : Bool) (bs : List UInt8) (j : Nat) (a x : UInt8), bs[j]? = some a → ∃ k : Nat, (k = 1 ∨ k = 256) ∧ wsum h (bs.set j x) + k * a.toNat = wsum h bs + k * x.toNat
  | _, [], _, _, _, h => by simp at h
  | true, b :: r, 0, a, x, h => by
    have e : b = a := by simpa using h
    subst e
    refine ⟨256, .inr rfl, ?_⟩
    simp only [List.set_cons_zero, wsum]
    omega
  | false, b :: r, 0, a, x, h => by
    have e : b = a := by simpa using h
    subst e
    refine ⟨1, .inl rfl, ?_⟩
    simp only [List.set_cons_zero, wsum]
    omega
  | true, b :: r, j + 1, a, x, h => by
    obtain ⟨k, hk, e⟩ := wsum_set false r j a x (by simpa using h)
    refine ⟨k, hk, ?_⟩
    simp only [List.set_cons_succ, wsum]
    omega
  | false, b :: r, j + 1, a, x, h => by
    obtain ⟨k, hk, e⟩ := wsum_set true r j a x (by simpa using h)
    refine ⟨k, hk, ?_⟩
    simp only [List.set_cons_succ, wsum]
    omega
theorem ck_turned {l : List UInt8} {j : Nat} {a x : UInt8} (h : ck l = 0) (hj : l[j]? = some a) (hx : x ≠ a) : ck (l.set j x) ≠ 0 := by
  intro h2
  rw [ck_zero] at h h2
  obtain ⟨k, hk, e⟩ := wsum_set true l j a x hj
  have ha := a.toNat_lt
  have hb := x.toNat_lt
  have hne : x.toNat ≠ a.toNat := fun e => hx (UInt8.toNat_inj.1 e)
  rcases hk with rfl | rfl <;> omega
/-- Xor with a byte. -/
theorem byte_xor (a : UInt8) (n : Nat) (hn : n < 256) : ∃ x : UInt8, bits .xor .u8 (a.toNat : Int) (n : Int) = (x.toNat : Int) ∧ (x = a ↔ n = 0) := by
  have ha := a.toNat_lt
  have hx : a.toNat ^^^ n < 256 := Nat.xor_lt_two_pow (n := 8) ha hn
  have hv : (UInt8.ofNat (a.toNat ^^^ n)).toNat = a.toNat ^^^ n := by rw [ofNat_lt]; exact Nat.mod_eq_of_lt hx
  refine ⟨UInt8.ofNat (a.toNat ^^^ n), ?_, ?_⟩
  · rw [u8_xor_nat a.toNat n ha hn, hv]
  · rw [← UInt8.toNat_inj, hv]
    constructor
    · intro h
      have h2 : a.toNat ^^^ (a.toNat ^^^ n) = a.toNat ^^^ a.toNat := by rw [h]
      rwa [← Nat.xor_assoc, Nat.xor_self, Nat.zero_xor] at h2
    · rintro rfl
      exact Nat.xor_zero _
end Go.Proofs.YtlhanaglhkmcfaaDoor
