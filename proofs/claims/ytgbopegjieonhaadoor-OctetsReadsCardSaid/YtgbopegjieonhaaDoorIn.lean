/-
  What is proved: where a reader's own bytes lie: Read, Bytes, Rest by contract, with the blocks of the bytes.
  Conditions: the reader holds fewer than 2^40 bytes.
-/
import Derived.Test.YtgbopegjieonhaaDoorStr
namespace Go.Proofs.YtgbopegjieonhaaDoor
open Go.RowKit

/-- A reader whose bytes lie in a block of which 'P' holds. -/
def RdrIn (P : Nat → Prop) (w : World) (p : Addr) (bs : List UInt8) : Prop :=
  ∃ A, w.cell? p = some (.slice A bs.length bs.length) ∧ w.frozen? p = false ∧ (0 < bs.length → ∃ g o, P g ∧ A = some ⟨g, o, none⟩ ∧ ∀ i u, bs[i]? = some u → w.cell? ⟨g, o + i, none⟩ = some (B8 u))
theorem RdrIn.rdr {P : Nat → Prop} {w : World} {p : Addr} {bs : List UInt8} (h : RdrIn P w p bs) : Rdr w p bs := by
  obtain ⟨A, h1, h2, h3⟩ := h
  exact ⟨A, h1, h2, fun h0 => by obtain ⟨g, o, _, e, hi⟩ := h3 h0; exact ⟨g, o, e, hi⟩⟩
theorem RdrIn.fr {P : Nat → Prop} {q : Addr → Prop} {w w' : World} {p : Addr} {bs : List UInt8} (h : RdrIn P w p bs) (hf : Fr q w w') (hp : ¬ q p) (hq : ∀ a, P a.block → ¬ q a) : RdrIn P w' p bs := by
  obtain ⟨A, h1, h2, h3⟩ := h
  have hpl := World.block_lt_of_cell? w p h1
  refine ⟨A, (hf.cell p hpl hp).trans h1, (hf.frozen p hpl hp).trans h2, fun h0 => ?_⟩
  obtain ⟨g, o, hP, e, hi⟩ := h3 h0
  exact ⟨g, o, hP, e, fun i u hu => (hf.cell _ (World.block_lt_of_cell? w _ (hi i u hu)) (hq _ hP)).trans (hi i u hu)⟩
theorem RdrIn.below {P : Nat → Prop} {w w' : World} {p : Addr} {bs : List UInt8} (h : RdrIn P w p bs) (hb : Below w.heap.size w w') : RdrIn P w' p bs :=
  h.fr (q := fun _ => False) (Fr.of_below hb) id (fun _ _ h => h)

theorem Read_in (v : Value) (bs : List UInt8) (w : World) (hr : Rd w v bs) (hn : bs.length ≤ 1099511627776) :
    Calls Tryd.prog 10 #[v] w fun e w' => ∃ b, e = .returned (.pointer (some ⟨b, 0, none⟩)) ∧ w.heap.size ≤ b ∧ RdrIn (fun k => w.heap.size ≤ k) w' ⟨b, 0, none⟩ bs ∧ Below w.heap.size w w' := by
  refine (Read_any v bs w hr hn).mono ?_
  rintro e w' ⟨rfl, rfl⟩
  refine ⟨_, rfl, by omega, ⟨some ⟨w.heap.size, 0, none⟩, ?_, ?_, fun _ => ⟨w.heap.size, 0, Nat.le_refl _, rfl, fun i u hu => ?_⟩⟩, ((Below.refl _ _).alloc (Nat.le_refl _) _).alloc (by simp) _⟩
  · rw [World.cell?_alloc_at _ _ _ _ (by simp)]; rfl
  · simp
  · rw [World.cell?_alloc_lt _ _ _ (by simp), Nat.zero_add]
    exact bytesCell (bytesObj_new w bs) i u hu

/-- What is left lies where it lay; the part is new. -/
structure TookIn (p : Addr) (bs : List UInt8) (n : Nat) (w w' : World) : Prop where
  rdr : RdrIn (fun k => k < w.heap.size) w' p (bs.drop n)
  part : w'.heap[w.heap.size]? = some (bytesObj (bs.take n))
  fr : Fr (· = p) w w'
  size : w'.heap.size = w.heap.size + 1

theorem cut_in {w : World} {p : Addr} {bs : List UInt8} {A : Option Addr} (n : Nat) (hc : w.cell? p = some (.slice A bs.length bs.length)) (hz : w.frozen? p = false)
    (hr : 0 < bs.length → ∃ g o, A = some ⟨g, o, none⟩ ∧ ∀ i u, bs[i]? = some u → w.cell? ⟨g, o + i, none⟩ = some (B8 u)) :
    RdrIn (fun k => k < w.heap.size) (w.setCell p (.slice (cutA A bs.length n) (bs.length - n) (bs.length - n))) p (bs.drop n) := by
  have hk : ∀ x u, w.cell? x = some (B8 u) → (w.setCell p (.slice (cutA A bs.length n) (bs.length - n) (bs.length - n))).cell? x = some (B8 u) := by
    intro x u hu
    rw [World.cell?_setCell_other _ _ _ _ (fun e => by subst e; rw [hc] at hu; cases hu)]
    exact hu
  refine ⟨cutA A bs.length n, ?_, ?_, fun h0 => ?_⟩
  · rw [World.cell?_setCell_same _ _ _ hc, List.length_drop]
  · rw [frozen_setCell]; exact hz
  · rw [List.length_drop] at h0
    obtain ⟨g, o, rfl, hi⟩ := hr (by omega)
    have hgl : g < w.heap.size := World.block_lt_of_cell? w ⟨g, o + n, none⟩ (hi n bs[n] (List.getElem?_eq_getElem (by omega)))
    refine ⟨g, o + n, hgl, ?_, fun i u hu => ?_⟩
    · simp only [cutA]; rw [if_neg (by omega)]; simp [Addr.add_lit]
    · rw [List.getElem?_drop] at hu
      rw [Nat.add_assoc]
      exact hk _ _ (hi (n + i) u hu)

theorem Bytes_in (p : Addr) (bs : List UInt8) (n : Nat) (w : World) (h : Rdr w p bs) (hn : n ≤ bs.length) (hL : bs.length ≤ 1099511627776) :
    Calls Tryd.prog 16 #[.pointer (some p), .int .i64 n] w fun e w' => e = .returned (.tuple #[.slice (some ⟨w.heap.size, 0, none⟩) n n, .nilIface]) ∧ TookIn p bs n w w' := by
  obtain ⟨A, hc, hz, hr⟩ := h
  have hcut := cut_in n hc hz hr
  have hcut2 := (Rdr.cut n hn hc hz hr).2
  have hlen : (bs.take n).length = n := by rw [List.length_take]; omega
  have hrd : Rd (w.setCell p (.slice (cutA A bs.length n) (bs.length - n) (bs.length - n))) (.slice A n n) (bs.take n) := by
    refine ⟨A, n, by rw [hlen], by rw [hlen]; exact Nat.le_refl _, fun h0 => ?_⟩
    rw [hlen] at h0
    obtain ⟨g, o, rfl, hi⟩ := hr (by omega)
    refine ⟨g, o, rfl, fun i u hu => hcut2 _ _ (hi i u ?_)⟩
    rw [List.getElem?_take] at hu
    split at hu
    · exact hu
    · cases hu
  have ho := own_any (.slice A n n) (bs.take n) _ hrd (by omega)
  rw [hlen] at ho
  have HT := Lib.hid (take_ok p A bs.length n w hc hz hn hL)
  have htook : TookIn p bs n w ((w.setCell p (.slice (cutA A bs.length n) (bs.length - n) (bs.length - n))).alloc (bytesObj (bs.take n))) := by
    refine ⟨hcut.below ((Below.refl _ _).alloc (Nat.le_refl _) _), ?_, (Fr.of_set (p := (· = p)) w p _ rfl).alloc _, by simp⟩
    have := bytesObj_new (w.setCell p (.slice (cutA A bs.length n) (bs.length - n) (bs.length - n))) (bs.take n)
    rwa [World.size_setCell] at this
  rw [World.size_setCell] at ho
  have HO := Lib.hid ho
  have HK := Lib.hid htook
  have h0 : ¬ (n : Int) < 0 := by omega
  clear hc hz hr hcut hcut2 hrd ho htook hlen hn hL
  generalize w.setCell p (.slice (cutA A bs.length n) (bs.length - n) (bs.length - n)) = W at *
  go_enter Tryd.func16, Tryd.ntmps16
  go_wp2_with fail
  refine HT.out.mono ?_
  rintro e w' ⟨rfl, rfl⟩
  go_wp2_with fail
  refine HO.out.mono ?_
  rintro e w' ⟨rfl, rfl⟩
  go_wp2_with fail
  go_ret2
  exact ⟨rfl, HK.out⟩
theorem Rest_in (p : Addr) (bs : List UInt8) (w : World) (h : Rdr w p bs) (hL : bs.length ≤ 1099511627776) :
    Calls Tryd.prog 17 #[.pointer (some p)] w fun e w' => e = .returned (.slice (some ⟨w.heap.size, 0, none⟩) bs.length bs.length) ∧ TookIn p bs bs.length w w' := by
  refine (Rest_any p bs w h hL).mono ?_
  rintro e w' ⟨rfl, htk⟩
  refine ⟨rfl, ?_, htk.part, htk.fr, htk.size⟩
  have h1 := htk.rdr
  rw [List.drop_length] at h1 ⊢
  obtain ⟨A, k1, k2, _⟩ := h1
  exact ⟨A, k1, k2, fun h0 => absurd h0 (by simp)⟩
end Go.Proofs.YtgbopegjieonhaaDoor
