/-
  What is proved: the law SumPseudo answers true for any addresses, protocols and number, and leaves all older memory as it was.
  Conditions: none but that the numbers fit their kinds.
-/
import Derived.Test.YtphmgnlhnaobkaaSShown
namespace Go.Proofs.Ytphmgnlhnaobkaa
open Go.RowKit

theorem Rd.sub {w : World} {g o n c : Nat} {bs : List UInt8} (h : Rd w (.slice (some ⟨g, o, none⟩) n c) bs) (i j : Nat) (hij : i ≤ j) (hj : j ≤ n) : Rd w (.slice (some ⟨g, o + i, none⟩) (j - i) (c - i)) ((bs.take j).drop i) := by
  obtain ⟨A, c', e, hc, hcell⟩ := h
  cases e
  have hl : ((bs.take j).drop i).length = j - i := by rw [List.length_drop, List.length_take]; omega
  refine ⟨_, c - i, by rw [hl], by rw [hl]; omega, fun h0 => ⟨g, o + i, rfl, fun k u hu => ?_⟩⟩
  rw [hl] at h0
  obtain ⟨g', o', e, hi⟩ := hcell (by omega)
  cases e
  rw [List.getElem?_drop, List.getElem?_take] at hu
  split at hu
  · rw [Nat.add_assoc]; exact hi _ _ hu
  · cases hu
theorem wsum_swap (a b c d e f g h : UInt8) (t : List UInt8) : wsum true ([a, b, c, d] ++ [e, f, g, h] ++ t) = wsum true ([e, f, g, h] ++ [a, b, c, d] ++ t) := by
  simp only [wsum, List.cons_append, List.nil_append]
  omega
theorem psd_swap (s d p : Nat) (n : Int) : ck (psd s d p n) = ck (psd d s p n) := by
  unfold ck
  rw [show wsum true (psd s d p n) = wsum true (psd d s p n) from wsum_swap _ _ _ _ _ _ _ _ _]
theorem wsum_last (l : List UInt8) (hl : l.length = 8) (x y z t u : UInt8) : wsum true (l ++ [x, y, z, t]) + u.toNat = wsum true (l ++ [x, u, z, t]) + y.toNat := by
  rw [wsum_append, wsum_append, hl]
  simp only [par, wsum, Nat.reduceMod, if_true]
  omega
theorem psd_tells (s d p o : Nat) (n : Int) (hp : p < 256) (ho : o < 256) : (ck (psd s d p n) = ck (psd s d o n)) ↔ p = o := by
  have h1 : wsum true (psd s d p n) + o = wsum true (psd s d o n) + p := by
    have h := wsum_last (be4 s ++ be4 d) rfl 0 (UInt8.ofNat p) (b8i (n / 256)) (b8i n) (UInt8.ofNat o)
    rw [ofNat_lt, ofNat_lt, Nat.mod_eq_of_lt hp, Nat.mod_eq_of_lt ho] at h
    exact h
  have h2 := fold_le (wsum true (psd s d p n))
  have h3 := fold_le (wsum true (psd s d o n))
  unfold ck
  generalize wsum true (psd s d p n) = a at *
  generalize wsum true (psd s d o n) = b at *
  constructor
  · intro h
    have h4 : fold a = fold b := by omega
    unfold fold at h4
    split at h4 <;> split at h4 <;> omega
  · rintro rfl
    rw [show a = b by omega]

set_option maxRecDepth 100000 in
set_option maxHeartbeats 4000000 in
theorem pseudo_any (s d p o n : Nat) (w : World) (_hs : s < 4294967296) (_hd : d < 4294967296) (hp : p < 256) (ho : o < 256) (hn : n ≤ 65535) :
    Calls Try.prog 8 #[.int .u32 (s : Int), .int .u32 (d : Int), .int .u8 (p : Int), .int .u8 (o : Int), .int .u16 (n : Int)] w fun e w' => e = .returned (.bool true) ∧ Below w.heap.size w w' := by
  go_enter Try.func8, Try.ntmps8
  go_wp2_with fail
  refine (shown_any w).mono ?_
  rintro e w0 ⟨rfl, hb0⟩
  have B0 := Lib.hid hb0
  clear hb0
  go_wp2_with fail
  refine (Pseudo_any s d p n hp w0).mono ?_
  rintro e w1 ⟨rfl, hw1⟩
  have B1 := Lib.hid (show Below w.heap.size w w1 by subst hw1; exact B0.out.alloc B0.out.size _)
  have R1 := Lib.hid (show Rd w1 (.slice (some ⟨w0.heap.size, 0, none⟩) 12 12) (psd s d p n) by subst hw1; exact Rd.of_obj (bytesObj_new _ _) (Nat.le_refl _))
  clear hw1 B0
  generalize w0.heap.size = ga at *
  go_wp2_with fail
  refine (Pseudo_any d s p n hp w1).mono ?_
  rintro e w2 ⟨rfl, hw2⟩
  have B2 := Lib.hid (show Below w.heap.size w w2 by subst hw2; exact B1.out.alloc B1.out.size _)
  have R2 := Lib.hid (show Rd w2 _ _ by subst hw2; exact R1.out.alloc _)
  have S2 := Lib.hid (show Rd w2 (.slice (some ⟨w1.heap.size, 0, none⟩) 12 12) (psd d s p n) by subst hw2; exact Rd.of_obj (bytesObj_new _ _) (Nat.le_refl _))
  clear hw2 B1 R1
  generalize w1.heap.size = gb at *
  go_wp2_with fail
  refine (Pseudo_any s d o n ho w2).mono ?_
  rintro e w3 ⟨rfl, hw3⟩
  have B3 := Lib.hid (show Below w.heap.size w w3 by subst hw3; exact B2.out.alloc B2.out.size _)
  have R3 := Lib.hid (show Rd w3 _ _ by subst hw3; exact R2.out.alloc _)
  have S3 := Lib.hid (show Rd w3 _ _ by subst hw3; exact S2.out.alloc _)
  have T3 := Lib.hid (show Rd w3 (.slice (some ⟨w2.heap.size, 0, none⟩) 12 12) (psd s d o n) by subst hw3; exact Rd.of_obj (bytesObj_new _ _) (Nat.le_refl _))
  clear hw3 B2 R2 S2
  generalize w2.heap.size = gc at *
  have hdr : ∀ k v bs, Rd w3 v bs → Rd (w3.drewN k) v bs := fun k v bs h => h.keep fun _ _ hu => hu
  have c1 := fun k => convert_rd (hdr k _ _ (R3.out.sub 0 4 (by omega) (by omega)))
  have c2 := fun k => convert_rd (hdr k _ _ (S3.out.sub 4 8 (by omega) (by omega)))
  have c3 := fun k => convert_rd (hdr k _ _ (R3.out.sub 4 8 (by omega) (by omega)))
  have c4 := fun k => convert_rd (hdr k _ _ (S3.out.sub 0 4 (by omega) (by omega)))
  have c5 := fun k => convert_rd (hdr k _ _ (R3.out.sub 8 12 (by omega) (by omega)))
  have c6 := fun k => convert_rd (hdr k _ _ (S3.out.sub 8 12 (by omega) (by omega)))
  clear hdr
  have e1 : ((psd s d p n).take 4).drop 0 = be4 s := rfl
  have e2 : ((psd d s p n).take 8).drop 4 = be4 s := rfl
  have e3 : ((psd s d p n).take 8).drop 4 = be4 d := rfl
  have e4 : ((psd d s p n).take 4).drop 0 = be4 d := rfl
  have e5 : ((psd s d p n).take 12).drop 8 = [0, UInt8.ofNat p, b8i ((n : Int) / 256), b8i n] := rfl
  have e6 : ((psd d s p n).take 12).drop 8 = [0, UInt8.ofNat p, b8i ((n : Int) / 256), b8i n] := rfl
  simp only [e1, e2, e3, e4, e5, e6, Nat.zero_add, Nat.reduceSub] at c1 c2 c3 c4 c5 c6
  clear e1 e2 e3 e4 e5 e6
  generalize txt (be4 s) = ts at *
  generalize txt (be4 d) = td at *
  generalize txt [0, UInt8.ofNat p, b8i ((n : Int) / 256), b8i n] = tp at *
  go_wp2_with fail
  go_quiet (fail)
  have B4 := Lib.hid (show Below w.heap.size w (w3.drewN nq) from ⟨B3.out.os, B3.out.tape, B3.out.output, B3.out.size, B3.out.block⟩)
  have R4 := Lib.hid (show Rd (w3.drewN nq) _ _ from R3.out.keep fun _ _ hu => hu)
  have S4 := Lib.hid (show Rd (w3.drewN nq) _ _ from S3.out.keep fun _ _ hu => hu)
  have T4 := Lib.hid (show Rd (w3.drewN nq) _ _ from T3.out.keep fun _ _ hu => hu)
  generalize w3.drewN nq = w4 at *
  clear c1 c2 c3 c4 c5 c6 B3 R3 S3 T3
  go_wp2_with fail
  refine (Sum_one rfl R4.out (by rw [psd_len]; omega)).mono ?_
  rintro e w5 ⟨rfl, hw5⟩
  have B5 := Lib.hid (show Below w.heap.size w w5 by subst hw5; exact B4.out.alloc B4.out.size _)
  have R5 := Lib.hid (show Rd w5 _ _ by subst hw5; exact R4.out.alloc _)
  have S5 := Lib.hid (show Rd w5 _ _ by subst hw5; exact S4.out.alloc _)
  have T5 := Lib.hid (show Rd w5 _ _ by subst hw5; exact T4.out.alloc _)
  clear hw5 B4 R4 S4 T4
  go_wp2_with fail
  refine (Sum_one rfl S5.out (by rw [psd_len]; omega)).mono ?_
  rintro e w6 ⟨he, hw6⟩
  rw [← psd_swap s d p n] at he
  subst he
  have B6 := Lib.hid (show Below w.heap.size w w6 by subst hw6; exact B5.out.alloc B5.out.size _)
  have R6 := Lib.hid (show Rd w6 _ _ by subst hw6; exact R5.out.alloc _)
  have T6 := Lib.hid (show Rd w6 _ _ by subst hw6; exact T5.out.alloc _)
  clear hw6 B5 R5 S5 T5
  go_wp2_with fail
  refine (Sum_one rfl R6.out (by rw [psd_len]; omega)).mono ?_
  rintro e w7 ⟨rfl, hw7⟩
  have B7 := Lib.hid (show Below w.heap.size w w7 by subst hw7; exact B6.out.alloc B6.out.size _)
  have R7 := Lib.hid (show Rd w7 _ _ by subst hw7; exact R6.out.alloc _)
  have T7 := Lib.hid (show Rd w7 _ _ by subst hw7; exact T6.out.alloc _)
  clear hw7 B6 R6 T6
  go_wp2_with fail
  refine (Sum_one rfl T7.out (by rw [psd_len]; omega)).mono ?_
  rintro e w8 ⟨rfl, hw8⟩
  have B8' := Lib.hid (show Below w.heap.size w w8 by subst hw8; exact B7.out.alloc B7.out.size _)
  have R8 : Rd w8 (.slice (some ⟨ga, 0, none⟩) 12 12) (psd s d p n) := by subst hw8; exact R7.out.alloc _
  obtain ⟨A, c, e, _, hcell⟩ := R8
  cases e
  obtain ⟨g, o', e, hi⟩ := hcell (by rw [psd_len]; omega)
  cases e
  have k8 : w8.cell? ⟨ga, 8, none⟩ = some (.int .u8 0) := by
    have := hi 8 0 rfl
    exact this
  have k9 : w8.cell? ⟨ga, 9, none⟩ = some (.int .u8 (p : Int)) := by
    have h := hi 9 (UInt8.ofNat p) rfl
    rw [show B8 (UInt8.ofNat p) = .int .u8 (p : Int) from B8_of (by rw [ofNat_lt]; omega)] at h
    rwa [Nat.zero_add] at h
  have ht := psd_tells s d p o n hp ho
  generalize ck (psd s d p n) = x at *
  generalize ck (psd s d o n) = y at *
  clear hi hcell hw8 B7 R7 T7
  by_cases hpo : p = o
  · have hxy : x = y := ht.2 hpo
    subst hpo
    subst hxy
    clear ht
    go_wp2_with fail
    go_ret
    exact ⟨rfl, B8'.out⟩
  · have hxy : x ≠ y := fun h => hpo (ht.1 h)
    have q1 : ((x : Int) == (y : Int)) = false := by rw [beq_eq_false_iff_ne]; omega
    have q2 : ((p : Int) == (o : Int)) = false := by rw [beq_eq_false_iff_ne]; omega
    clear ht
    go_wp2_with fail
    go_ret
    exact ⟨rfl, B8'.out⟩
end Go.Proofs.Ytphmgnlhnaobkaa
