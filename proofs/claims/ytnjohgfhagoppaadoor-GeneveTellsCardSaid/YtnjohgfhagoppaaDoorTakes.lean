/-
  What is proved: the reader of octets (A1) by contract: Bytes, Rest.
  Conditions: the reader holds fewer than 2^40 bytes.
-/
import Derived.Test.YtnjohgfhagoppaaDoorNums
namespace Go.Proofs.YtnjohgfhagoppaaDoor
open Go.RowKit

theorem Bytes_neg (p : Addr) (n : Int) (w : World) (hn : n < 0) :
    Calls Tryd.prog 56 #[.pointer (some p), .int .i64 n] w fun e w' => e = .returned (.tuple #[.slice none 0 0, .iface 92 (.pointer (some ⟨w.heap.size, 0, none⟩))]) ∧ w.alloc (wrongObj octetsWord 1) = w' := by
  go_enter Tryd.func56, Tryd.ntmps56
  go_wp2_with fail
  refine (wrap_any _ _ _ _).mono ?_
  rintro e w' ⟨rfl, rfl⟩
  go_wp2_with fail
  go_ret2
  exact ⟨rfl, rfl⟩
theorem Bytes_short (p : Addr) (bs : List UInt8) (n : Int) (w : World) (h : Rdr w p bs) (hn : (bs.length : Int) < n) :
    Calls Tryd.prog 56 #[.pointer (some p), .int .i64 n] w fun e w' => e = .returned (.tuple #[.slice none 0 0, .iface 92 (.pointer (some ⟨w.heap.size, 0, none⟩))]) ∧ w.alloc (wrongObj octetsWord 2) = w' := by
  obtain ⟨A, hc, hz, hr⟩ := h
  have HT := Lib.hid (take_short p A bs.length n w hc (by omega))
  have h0 : ¬ n < 0 := by omega
  clear hc hz hr hn
  go_enter Tryd.func56, Tryd.ntmps56
  go_wp2_with fail
  refine HT.out.mono ?_
  rintro e w' ⟨rfl, rfl⟩
  go_wp2_with fail
  go_ret2
  exact ⟨rfl, rfl⟩
/-- What is left, and what was taken, behind a taking of 'n' bytes. -/
structure Took (p : Addr) (bs : List UInt8) (n : Nat) (w w' : World) : Prop where
  rdr : Rdr w' p (bs.drop n)
  part : w'.heap[w.heap.size]? = some (bytesObj (bs.take n))
  fr : Fr (· = p) w w'
  size : w'.heap.size = w.heap.size + 1
theorem Bytes_ok (p : Addr) (bs : List UInt8) (n : Nat) (w : World) (h : Rdr w p bs) (hn : n ≤ bs.length) (hL : bs.length ≤ 1099511627776) :
    Calls Tryd.prog 56 #[.pointer (some p), .int .i64 n] w fun e w' => e = .returned (.tuple #[.slice (some ⟨w.heap.size, 0, none⟩) n n, .nilIface]) ∧ Took p bs n w w' := by
  obtain ⟨A, hc, hz, hr⟩ := h
  have hcut := Rdr.cut n hn hc hz hr
  have hlen : (bs.take n).length = n := by rw [List.length_take]; omega
  have hrd : Rd (w.setCell p (.slice (cutA A bs.length n) (bs.length - n) (bs.length - n))) (.slice A n n) (bs.take n) := by
    refine ⟨A, n, by rw [hlen], by rw [hlen]; exact Nat.le_refl _, fun h0 => ?_⟩
    rw [hlen] at h0
    obtain ⟨g, o, rfl, hi⟩ := hr (by omega)
    refine ⟨g, o, rfl, fun i u hu => hcut.2 _ _ (hi i u ?_)⟩
    rw [List.getElem?_take] at hu
    split at hu
    · exact hu
    · cases hu
  have ho := own_any (.slice A n n) (bs.take n) _ hrd (by omega)
  rw [hlen] at ho
  have HT := Lib.hid (take_ok p A bs.length n w hc hz hn hL)
  have htook : Took p bs n w ((w.setCell p (.slice (cutA A bs.length n) (bs.length - n) (bs.length - n))).alloc (bytesObj (bs.take n))) := by
    refine ⟨hcut.1.below ((Below.refl _ _).alloc (Nat.le_refl _) _), ?_, (Fr.of_set (p := (· = p)) w p _ rfl).alloc _, by simp⟩
    have := bytesObj_new (w.setCell p (.slice (cutA A bs.length n) (bs.length - n) (bs.length - n))) (bs.take n)
    rwa [World.size_setCell] at this
  rw [World.size_setCell] at ho
  have HO := Lib.hid ho
  have HK := Lib.hid htook
  have h0 : ¬ (n : Int) < 0 := by omega
  clear hc hz hr hcut hrd ho htook hlen hn hL
  generalize w.setCell p (.slice (cutA A bs.length n) (bs.length - n) (bs.length - n)) = W at *
  go_enter Tryd.func56, Tryd.ntmps56
  go_wp2_with fail
  refine HT.out.mono ?_
  rintro e w' ⟨rfl, rfl⟩
  go_wp2_with fail
  refine HO.out.mono ?_
  rintro e w' ⟨rfl, rfl⟩
  go_wp2_with fail
  go_ret2
  exact ⟨rfl, HK.out⟩
theorem Rest_any (p : Addr) (bs : List UInt8) (w : World) (h : Rdr w p bs) (hL : bs.length ≤ 1099511627776) :
    Calls Tryd.prog 37 #[.pointer (some p)] w fun e w' => e = .returned (.slice (some ⟨w.heap.size, 0, none⟩) bs.length bs.length) ∧ Took p bs bs.length w w' := by
  obtain ⟨A, hc, hz, hr⟩ := h
  have hrd : Rd w (.slice A bs.length bs.length) bs := ⟨A, bs.length, rfl, Nat.le_refl _, hr⟩
  have HO := Lib.hid (own_any _ bs w hrd hL)
  have hpl := World.block_lt_of_cell? w p hc
  have hb : Below w.heap.size w (w.alloc (bytesObj bs)) := (Below.refl _ _).alloc (Nat.le_refl _) _
  have hc1 : (w.alloc (bytesObj bs)).cell? p = some (.slice A bs.length bs.length) := (hb.cell hpl).trans hc
  have hz1 : (w.alloc (bytesObj bs)).frozen? p = false := (hb.frozen hpl).trans hz
  have HK : Hid (Took p bs bs.length w ((w.alloc (bytesObj bs)).setCell p (.slice none 0 0))) := by
    refine ⟨⟨none, ?_, ?_, fun h0 => ?_⟩, ?_, ((Fr.refl _ _).alloc _).set p _ rfl, by simp⟩
    · rw [World.cell?_setCell_same _ _ _ hc1]; simp
    · rw [frozen_setCell]; exact hz1
    · simp at h0
    · rw [Below.heap_setCell _ _ _ _ (by omega), bytesObj_new, List.take_length]
  clear hz hr hrd hb hpl hL
  generalize w.alloc (bytesObj bs) = W at *
  go_enter Tryd.func37, Tryd.ntmps37
  go_wp2_with fail
  refine HO.out.mono ?_
  rintro e w' ⟨rfl, rfl⟩
  go_wp2_with fail
  go_ret
  exact ⟨rfl, HK.out⟩
end Go.Proofs.YtnjohgfhagoppaaDoor
