/-
  What is proved: the document's answer for layer 1 (underpassref01) by contract: Take, Text.
  Conditions: texts of fewer than 2^40 bytes; sizes 0, 1, 2, 4.
-/
import Derived.Test.YtmkfinpkidfohaaDoorStr
namespace Go.Proofs.YtmkfinpkidfohaaDoor
open Go.RowKit

theorem txt_front (bs : List UInt8) (n : Nat) : (txt bs).extract 0 n = txt (bs.take n) := by
  apply ByteArray.ext
  rw [ByteArray.data_extract]
  simp [txt, List.extract_eq_take_drop]
theorem txt_back (bs : List UInt8) (n : Nat) : (txt bs).extract n (txt bs).size = txt (bs.drop n) := by
  apply ByteArray.ext
  rw [ByteArray.data_extract]
  simp only [txt, ByteArray.size, List.extract_toArray, List.extract_eq_take_drop, List.size_toArray]
  rw [List.take_of_length_le (by simp)]

def word1 : ByteArray := ⟨#[111, 99, 116, 101, 116, 115, 58, 32, 101, 114, 114, 111, 114, 32, 49]⟩
def word2 : ByteArray := ⟨#[111, 99, 116, 101, 116, 115, 58, 32, 101, 114, 114, 111, 114, 32, 50]⟩

theorem convert_byte (W : World) (b : UInt8) (y : Int) (hy : y = (b.toNat : Int)) : (convert 25 9 (.slice (some ⟨W.heap.size, 0, none⟩) 1 1)).run Tryd.prog (W.alloc (.cells #[.int .u8 y] 5)) = .ok (.string (txt [b])) (W.alloc (.cells #[.int .u8 y] 5)) := by
  subst hy
  exact convert_rd (Rd.of_obj (bytesObj_new W [b]) (Nat.le_refl _))

set_option maxRecDepth 100000 in
set_option maxHeartbeats 1000000 in
theorem refText0 (n : Nat) (w : World) (_hn : n < 4294967296) :
    Calls Tryd.prog 7 #[.int .u32 n, .int .i64 0] w fun e w' => e = .returned (.string (txt ([]))) ∧ Below w.heap.size w w' := by
  go_enter Tryd.func7, Tryd.ntmps7
  go_wp2_with fail
  refine wp_loop_rounds 1 ?_
  rw [rounds_succ]
  go_wp2_with fail
  go_ret
  exact ⟨rfl, (Below.refl _ _)⟩
set_option maxRecDepth 100000 in
set_option maxHeartbeats 1000000 in
theorem refText1 (n : Nat) (w : World) (hn : n < 4294967296) :
    Calls Tryd.prog 7 #[.int .u32 n, .int .i64 1] w fun e w' => e = .returned (.string (txt ([UInt8.ofNat n]))) ∧ Below w.heap.size w w' := by
  have c0 := convert_byte w (UInt8.ofNat n) ((n : Int) % 256) (by rw [ofNat_lt]; omega)
  have z0 : (txt [UInt8.ofNat n]).size = 1 := txt_size _
  have HX : Hid ((txt [UInt8.ofNat n] ++ ⟨#[]⟩) = txt ([UInt8.ofNat n])) := by
    show _ = _
    rw [show (⟨#[]⟩ : ByteArray) = txt [] from rfl]
    simp only [txt_append]
    rfl
  go_enter Tryd.func7, Tryd.ntmps7
  go_wp2_with fail
  refine wp_loop_rounds 2 ?_
  rw [rounds_succ]
  go_wp2_with fail
  rw [rounds_succ]
  go_wp2_with fail
  go_ret
  exact ⟨by rw [← HX.out]; rfl, ((Below.refl _ _).alloc (Nat.le_refl _) _)⟩
set_option maxRecDepth 100000 in
set_option maxHeartbeats 1000000 in
theorem refText2 (n : Nat) (w : World) (hn : n < 4294967296) :
    Calls Tryd.prog 7 #[.int .u32 n, .int .i64 2] w fun e w' => e = .returned (.string (txt (be2 n))) ∧ Below w.heap.size w w' := by
  have c0 := convert_byte w (UInt8.ofNat n) ((n : Int) % 256) (by rw [ofNat_lt]; omega)
  have z0 : (txt [UInt8.ofNat n]).size = 1 := txt_size _
  have c1 := convert_byte (w.alloc (.cells #[.int .u8 ((n : Int) % 256)] 5)) (UInt8.ofNat (n / 256)) ((n : Int) / 256 % 256) (by rw [ofNat_lt]; omega)
  simp only [World.size_alloc] at c1
  have z1 : (txt [UInt8.ofNat (n / 256)]).size = 1 := txt_size _
  have HX : Hid ((txt [UInt8.ofNat (n / 256)] ++ (txt [UInt8.ofNat n] ++ ⟨#[]⟩)) = txt (be2 n)) := by
    show _ = _
    rw [show (⟨#[]⟩ : ByteArray) = txt [] from rfl]
    simp only [txt_append]
    rfl
  go_enter Tryd.func7, Tryd.ntmps7
  go_wp2_with fail
  refine wp_loop_rounds 3 ?_
  rw [rounds_succ]
  go_wp2_with fail
  rw [rounds_succ]
  go_wp2_with fail
  rw [rounds_succ]
  go_wp2_with fail
  go_ret
  exact ⟨by rw [← HX.out]; rfl, (((Below.refl _ _).alloc (Nat.le_refl _) _).alloc (by simp) _)⟩
set_option maxRecDepth 100000 in
set_option maxHeartbeats 1000000 in
theorem refText4 (n : Nat) (w : World) (hn : n < 4294967296) :
    Calls Tryd.prog 7 #[.int .u32 n, .int .i64 4] w fun e w' => e = .returned (.string (txt (be4 n))) ∧ Below w.heap.size w w' := by
  have c0 := convert_byte w (UInt8.ofNat n) ((n : Int) % 256) (by rw [ofNat_lt]; omega)
  have z0 : (txt [UInt8.ofNat n]).size = 1 := txt_size _
  have c1 := convert_byte (w.alloc (.cells #[.int .u8 ((n : Int) % 256)] 5)) (UInt8.ofNat (n / 256)) ((n : Int) / 256 % 256) (by rw [ofNat_lt]; omega)
  simp only [World.size_alloc] at c1
  have z1 : (txt [UInt8.ofNat (n / 256)]).size = 1 := txt_size _
  have c2 := convert_byte ((w.alloc (.cells #[.int .u8 ((n : Int) % 256)] 5)).alloc (.cells #[.int .u8 ((n : Int) / 256 % 256)] 5)) (UInt8.ofNat (n / 65536)) ((n : Int) / 256 / 256 % 256) (by rw [ofNat_lt]; omega)
  simp only [World.size_alloc] at c2
  have z2 : (txt [UInt8.ofNat (n / 65536)]).size = 1 := txt_size _
  have c3 := convert_byte (((w.alloc (.cells #[.int .u8 ((n : Int) % 256)] 5)).alloc (.cells #[.int .u8 ((n : Int) / 256 % 256)] 5)).alloc (.cells #[.int .u8 ((n : Int) / 256 / 256 % 256)] 5)) (UInt8.ofNat (n / 16777216)) ((n : Int) / 256 / 256 / 256 % 256) (by rw [ofNat_lt]; omega)
  simp only [World.size_alloc] at c3
  have z3 : (txt [UInt8.ofNat (n / 16777216)]).size = 1 := txt_size _
  have HX : Hid ((txt [UInt8.ofNat (n / 16777216)] ++ (txt [UInt8.ofNat (n / 65536)] ++ (txt [UInt8.ofNat (n / 256)] ++ (txt [UInt8.ofNat n] ++ ⟨#[]⟩)))) = txt (be4 n)) := by
    show _ = _
    rw [show (⟨#[]⟩ : ByteArray) = txt [] from rfl]
    simp only [txt_append]
    rfl
  go_enter Tryd.func7, Tryd.ntmps7
  go_wp2_with fail
  refine wp_loop_rounds 5 ?_
  rw [rounds_succ]
  go_wp2_with fail
  rw [rounds_succ]
  go_wp2_with fail
  rw [rounds_succ]
  go_wp2_with fail
  rw [rounds_succ]
  go_wp2_with fail
  rw [rounds_succ]
  go_wp2_with fail
  go_ret
  exact ⟨by rw [← HX.out]; rfl, (((((Below.refl _ _).alloc (Nat.le_refl _) _).alloc (by simp) _).alloc (by simp; omega) _).alloc (by simp; omega) _)⟩
end Go.Proofs.YtmkfinpkidfohaaDoor
