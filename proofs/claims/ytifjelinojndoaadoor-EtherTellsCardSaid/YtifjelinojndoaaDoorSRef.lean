/-
  What is proved: the document's answer for layer 2 (underpassref02) by contract: Sum, Update, Pseudo (and Text of layer 1, of two and four bytes).
  Conditions: texts of fewer than 2^40 bytes.
-/
import Derived.Test.YtifjelinojndoaaDoorSRow
namespace Go.Proofs.YtifjelinojndoaaDoor
open Go.RowKit

theorem convert_byte (W : World) (b : UInt8) (y : Int) (hy : y = (b.toNat : Int)) : (convert 22 9 (.slice (some ⟨W.heap.size, 0, none⟩) 1 1)).run Tryd.prog (W.alloc (.cells #[.int .u8 y] 5)) = .ok (.string (txt [b])) (W.alloc (.cells #[.int .u8 y] 5)) := by
  subst hy
  exact convert_rd (Rd.of_obj (bytesObj_new W [b]) (Nat.le_refl _))

set_option maxRecDepth 100000 in
set_option maxHeartbeats 1000000 in
theorem refText2 (n : Nat) (w : World) (hn : n < 4294967296) :
    Calls Tryd.prog 22 #[.int .u32 n, .int .i64 2] w fun e w' => e = .returned (.string (txt (be2 n))) ∧ Below w.heap.size w w' := by
  have c0 := convert_byte w (UInt8.ofNat n) ((n : Int) % 256) (by rw [ofNat_lt]; omega)
  have z0 : (txt [UInt8.ofNat n]).size = 1 := txt_size _
  have c1 := convert_byte (w.alloc (.cells #[.int .u8 ((n : Int) % 256)] 5)) (UInt8.ofNat (n / 256)) ((n : Int) / 256 % 256) (by rw [ofNat_lt]; omega)
  simp only [World.size_alloc] at c1
  have z1 : (txt [UInt8.ofNat (n / 256)]).size = 1 := txt_size _
  have HX : Hid ((txt [UInt8.ofNat (n / 256)] ++ (txt [UInt8.ofNat n] ++ ⟨#[]⟩)) = txt (be2 n)) := by
    show _ = _
    rw [show (⟨#[]⟩ : ByteArray) = txt [] from rfl]
    simp only [txt_append]
    rfl
  go_enter Tryd.func22, Tryd.ntmps22
  go_wp2_with fail
  refine wp_loop_rounds 3 ?_
  rw [rounds_succ]
  go_wp2_with fail
  rw [rounds_succ]
  go_wp2_with fail
  rw [rounds_succ]
  go_wp2_with fail
  go_ret
  exact ⟨by rw [← HX.out]; rfl, (((Below.refl _ _).alloc (Nat.le_refl _) _).alloc (by simp) _)⟩
set_option maxRecDepth 100000 in
set_option maxHeartbeats 1000000 in
theorem refText4 (n : Nat) (w : World) (hn : n < 4294967296) :
    Calls Tryd.prog 22 #[.int .u32 n, .int .i64 4] w fun e w' => e = .returned (.string (txt (be4 n))) ∧ Below w.heap.size w w' := by
  have c0 := convert_byte w (UInt8.ofNat n) ((n : Int) % 256) (by rw [ofNat_lt]; omega)
  have z0 : (txt [UInt8.ofNat n]).size = 1 := txt_size _
  have c1 := convert_byte (w.alloc (.cells #[.int .u8 ((n : Int) % 256)] 5)) (UInt8.ofNat (n / 256)) ((n : Int) / 256 % 256) (by rw [ofNat_lt]; omega)
  simp only [World.size_alloc] at c1
  have z1 : (txt [UInt8.ofNat (n / 256)]).size = 1 := txt_size _
  have c2 := convert_byte ((w.alloc (.cells #[.int .u8 ((n : Int) % 256)] 5)).alloc (.cells #[.int .u8 ((n : Int) / 256 % 256)] 5)) (UInt8.ofNat (n / 65536)) ((n : Int) / 256 / 256 % 256) (by rw [ofNat_lt]; omega)
  simp only [World.size_alloc] at c2
  have z2 : (txt [UInt8.ofNat (n / 65536)]).size = 1 := txt_size _
  have c3 := convert_byte (((w.alloc (.cells #[.int .u8 ((n : Int) % 256)] 5)).alloc (.cells #[.int .u8 ((n : Int) / 256 % 256)] 5)).alloc (.cells #[.int .u8 ((n : Int) / 256 / 256 % 256)] 5)) (UInt8.ofNat (n / 16777216)) ((n : Int) / 256 / 256 / 256 % 256) (by rw [ofNat_lt]; omega)
  simp only [World.size_alloc] at c3
  have z3 : (txt [UInt8.ofNat (n / 16777216)]).size = 1 := txt_size _
  have HX : Hid ((txt [UInt8.ofNat (n / 16777216)] ++ (txt [UInt8.ofNat (n / 65536)] ++ (txt [UInt8.ofNat (n / 256)] ++ (txt [UInt8.ofNat n] ++ ⟨#[]⟩)))) = txt (be4 n)) := by
    show _ = _
    rw [show (⟨#[]⟩ : ByteArray) = txt [] from rfl]
    simp only [txt_append]
    rfl
  go_enter Tryd.func22, Tryd.ntmps22
  go_wp2_with fail
  refine wp_loop_rounds 5 ?_
  rw [rounds_succ]
  go_wp2_with fail
  rw [rounds_succ]
  go_wp2_with fail
  rw [rounds_succ]
  go_wp2_with fail
  rw [rounds_succ]
  go_wp2_with fail
  rw [rounds_succ]
  go_wp2_with fail
  go_ret
  exact ⟨by rw [← HX.out]; rfl, (((((Below.refl _ _).alloc (Nat.le_refl _) _).alloc (by simp) _).alloc (by simp; omega) _).alloc (by simp; omega) _)⟩
theorem drewN_two (w : World) (m n : Nat) : (w.drewN m).drewN n = w.drewN (m + n) := by unfold World.drewN; simp [Nat.add_assoc]
theorem txt_index (ys : List UInt8) (i : Nat) (x : UInt8) (hx : ys[i]? = some x) (z : Int) (hz : z = (i : Int)) (W : World) : (Instr.index 9 (.string (txt ys)) (.int .i64 z)).run Tryd.prog W = .ok (.int .u8 (x.toNat : Int)) W := by
  subst hz
  have hl : i < ys.length := (List.getElem?_eq_some_iff.1 hx).1
  rw [run_index_string W 9 (txt ys) .i64 (i : Int) Tryd.underlying9, dif_pos ⟨by omega, by rw [txt_size]; omega⟩]
  have e : (txt ys)[(i : Int).toNat]'(by rw [txt_size]; omega) = x := by
    rw [List.getElem?_eq_getElem hl] at hx
    exact Option.some.inj hx
  rw [e]
/-- The lowest sixteen bits of n, whatever n is. -/
theorem low_any (n : Int) : ∃ m : Nat, m < 65536 ∧ (IntKind.u64.wrap n).tmod 65536 % 4294967296 = (m : Int) ∧ (m : Int) = n % 65536 := by
  refine ⟨(n % 65536).toNat, by omega, ?_, by omega⟩
  rw [IntKind.wrap_u64, Int.tmod_eq_emod_of_nonneg (by omega)]
  omega
theorem psd_parts (s d p m : Nat) (n : Int) (hp : p < 256) (hm : (m : Int) = n % 65536) : be4 s ++ be4 d ++ be2 p ++ be2 m = psd s d p n := by
  have h1 : UInt8.ofNat (p / 256) = 0 := by rw [Nat.div_eq_of_lt hp]; rfl
  have h2 : UInt8.ofNat (m / 256) = b8i (n / 256) := by
    rw [← UInt8.toNat_inj]
    have := b8i_toNat (n / 256)
    rw [ofNat_lt]
    omega
  have h3 : UInt8.ofNat m = b8i n := by
    rw [← UInt8.toNat_inj]
    have := b8i_toNat n
    rw [ofNat_lt]
    omega
  unfold psd be2
  rw [h1, h2, h3]
  simp
end Go.Proofs.YtifjelinojndoaaDoor
