/-
  What is proved: the law SumTwice answers true for any bytes, and leaves all older memory as it was.
  Conditions: none but that the slices are of fewer than 2^63 elements.
-/
import Derived.Test.YtphmgnlhnaobkaaSRow
namespace Go.Proofs.Ytphmgnlhnaobkaa
open Go.RowKit

theorem fold_add (a b : Nat) : fold (fold a + fold b) = fold (a + b) := by
  have h1 := fold_mod a
  have h2 := fold_mod b
  have h3 := fold_zero a
  have h4 := fold_zero b
  exact fold_eq (by omega) (by omega)
/-- Each bit turned. -/
def inv (bs : List UInt8) : List UInt8 := bs.map fun b => 255 - b
theorem inv_toNat (b : UInt8) : (255 - b).toNat = 255 - b.toNat := by
  have := b.toNat_lt
  rw [UInt8.toNat_sub_of_le]
  · rfl
  · rw [UInt8.le_iff_toNat_le]; exact Nat.le_of_lt_succ this
theorem wsum_inv : ∀ (bs : List UInt8), bs.length % 2 = 0 → wsum true bs + wsum true (inv bs) = 65535 * (bs.length / 2)
  | [], _ => rfl
  | [_], h => by simp at h
  | a :: b :: r, h => by
    have ih := wsum_inv r (by simp at h; omega)
    have ha := a.toNat_lt
    have hb := b.toNat_lt
    simp only [inv, List.map_cons, wsum, inv_toNat, List.length_cons] at ih ⊢
    have h2 : (r.length + 1 + 1) / 2 = r.length / 2 + 1 := by omega
    rw [h2]
    omega

theorem hi_byte (x : Nat) (hx : x ≤ 65535) : Value.int .u8 (IntKind.u16.wrap ((x : Int).tdiv 256) % 256) = B8 (UInt8.ofNat (x / 256)) := by
  rw [Int.tdiv_eq_ediv_of_nonneg (by omega), IntKind.wrap_u16]
  unfold B8
  rw [ofNat_lt]
  congr 1
  omega
theorem lo_byte (x : Nat) : Value.int .u8 ((x : Int) % 256) = B8 (UInt8.ofNat x) := by
  unfold B8
  rw [ofNat_lt]
  congr 1
theorem wsum_be2 (x y : Nat) (hx : x ≤ 65535) (hy : y ≤ 65535) : wsum true (be2 x ++ be2 y) = x + y := by
  simp only [be2, List.cons_append, List.nil_append, wsum, ofNat_lt]
  omega
theorem par_even {n : Nat} (h : n % 2 = 0) : par true n = true := by unfold par; rw [if_pos h]

set_option maxRecDepth 100000 in
set_option maxHeartbeats 4000000 in
theorem twice_any (A0 : Option Addr) (c0 : Nat) (l0 : List UInt8) (A1 : Option Addr) (c1 : Nat) (l1 : List UInt8) (w : World) (_hc0 : c0 ≤ 9223372036854775807) (hr0 : Rd w (.slice A0 l0.length c0) l0) (_hc1 : c1 ≤ 9223372036854775807) (hr1 : Rd w (.slice A1 l1.length c1) l1) :
    Calls Try.prog 7 #[.slice A0 l0.length c0, .slice A1 l1.length c1] w fun e w' => e = .returned (.bool true) ∧ Below w.heap.size w w' := by
  have hlc0 := hr0.cap_le
  have hlc1 := hr1.cap_le
  obtain ⟨K0, hk0⟩ : ∃ k, k = min l0.length 200 := ⟨_, rfl⟩
  obtain ⟨K1, hk1⟩ : ∃ k, k = min l1.length 200 := ⟨_, rfl⟩
  have hm0 := fun W => min_run (P := Try.prog) #[3, 3] 3 (l0.length : Int) 200 (K0 : Int) (by omega) W
  have hm1 := fun W => min_run (P := Try.prog) #[3, 3] 3 (l1.length : Int) 200 (K1 : Int) (by omega) W
  have a1 : K0 ≤ l0.length := by omega
  have a2 : K0 ≤ 200 := by omega
  have a3 : K1 ≤ l1.length := by omega
  have a4 : K1 ≤ 200 := by omega
  have H0 := Lib.hid (hr0.front a1)
  have H1 := Lib.hid (hr1.front a3)
  have hL0 : (l0.take K0).length = K0 := by rw [List.length_take]; omega
  have hL1 : (l1.take K1).length = K1 := by rw [List.length_take]; omega
  clear hr0 hr1 hk0 hk1
  generalize l0.take K0 = al at *
  generalize l1.take K1 = bs at *
  generalize l0.length = n0 at *
  generalize l1.length = n1 at *
  have L0 := Lib.hid hL0
  have L1 := Lib.hid hL1
  clear hL0 hL1
  go_enter Try.func7, Try.ntmps7
  go_wp2_with fail
  refine (shown_any w).mono ?_
  rintro e w0 ⟨rfl, hb0⟩
  obtain ⟨g, gc, w1, hrun, hmine, -, -, -⟩ := (Mine.first hb0).append al _ (H0.out.old (hb0.alloc hb0.size _)) (by rw [L0.out]; simp; omega)
  rw [List.nil_append, L0.out] at hrun
  rw [List.nil_append] at hmine
  have ER := Lib.hid hrun
  have MN := Lib.hid hmine
  clear hb0 hrun hmine
  go_upto_if 27 with (at_builtin; refine wpList_append_eq rfl (.tmp 12) (.tmp 17) 32 rfl _ _ rfl rfl _ _ ER.out ?_)
  go_cut [0] (fun v wc => ∃ g c L, v = .slice (some ⟨g, 0, none⟩) L c ∧ L = (even al).length ∧ Mine w wc g c (even al))
  case first =>
    by_cases hpar : K0 % 2 = 1
    · have q : ((K0 : Int) % 2 == 1) = true := by rw [beq_iff_eq]; omega
      obtain ⟨g2, gc2, w2, hrun2, hmine2, -, -, -⟩ := (MN.out.alloc (bytesObj [0])).append [0] (.slice (some ⟨w1.heap.size, 0, none⟩) 1 1) (Rd.of_obj (bytesObj_new w1 [0]) (Nat.le_refl _)) (by rw [L0.out]; simp; omega)
      have he : al ++ [0] = even al := by unfold even; rw [L0.out, if_pos hpar]
      rw [he, L0.out] at hrun2
      rw [he] at hmine2
      have ER2 := Lib.hid hrun2
      have MN2 := Lib.hid hmine2
      clear hrun2 hmine2 ER MN
      go_wp2_with (at_builtin; refine wpList_append_eq rfl (.tmp 28) (.tmp 29) 32 rfl _ _ rfl rfl _ _ ER2.out ?_)
      go_meet
      case rel => exact ⟨_, _, _, rfl, rfl, MN2.out⟩
    · have q : ((K0 : Int) % 2 == 1) = false := by rw [beq_eq_false_iff_ne]; omega
      have he : al = even al := by unfold even; rw [L0.out, if_neg hpar]
      go_wp2_with fail
      go_meet
      case rel => exact ⟨_, _, _, rfl, by rw [← he, L0.out], by rw [← he]; exact MN.out⟩
  case rest =>
    obtain ⟨ga, ca, L, rfl, hL, hmine⟩ := hcut
    have hLe : L % 2 = 0 := by rw [hL]; exact even_len _
    have hL2 : L ≤ 200 := by rw [hL]; exact even_le (by rw [L0.out]; exact a2) (by omega)
    generalize even al = xs at *
    have HL := Lib.hid hL
    have M1 := Lib.hid hmine
    have RD1 : Hid (Rd wc (.slice (some ⟨ga, 0, none⟩) L ca) xs) := by show Rd _ _ _; rw [hL]; exact hmine.rd
    clear hmine ER MN hm0 hm1 hL
    go_wp2_with fail
    refine (Sum_one rfl RD1.out (by have := HL.out; omega)).mono ?_
    rintro e w2 ⟨rfl, hw2⟩
    have M2 := Lib.hid (show Mine w w2 ga ca xs by subst hw2; exact M1.out.alloc _)
    clear hw2 M1 RD1
    go_wp2_with fail
    refine (Sum_one rfl (H1.out.old M2.out.old) (by rw [L1.out]; omega)).mono ?_
    rintro e w3 ⟨rfl, hw3⟩
    have M3 := Lib.hid (show Mine w w3 ga ca xs by subst hw3; exact M2.out.alloc _)
    clear hw3 M2
    have hx1 : ck xs ≤ 65535 := ck_le _
    have hy1 : ck bs ≤ 65535 := ck_le _
    generalize hcx : ck xs = cx at *
    generalize hcy : ck bs = cy at *
    have CX := Lib.hid hcx
    have CY := Lib.hid hcy
    clear hcx hcy
    have HB : Hid (Obj.cells #[Value.int IntKind.u8 (IntKind.u16.wrap ((65535 - (cx : Int)).tdiv 256) % 256), Value.int IntKind.u8 ((65535 - (cx : Int)) % 256),
        Value.int IntKind.u8 (IntKind.u16.wrap ((65535 - (cy : Int)).tdiv 256) % 256), Value.int IntKind.u8 ((65535 - (cy : Int)) % 256)] 5 = bytesObj (be2 (65535 - cx) ++ be2 (65535 - cy))) := by
      show _ = _
      rw [show (65535 - (cx : Int)) = ((65535 - cx : Nat) : Int) by omega, show (65535 - (cy : Int)) = ((65535 - cy : Nat) : Int) by omega, hi_byte _ (by omega), lo_byte, hi_byte _ (by omega), lo_byte]
      rfl
    have hck : ck (be2 (65535 - cx) ++ be2 (65535 - cy)) = ck (xs ++ bs) := by
      have e1 : wsum true (be2 (65535 - cx) ++ be2 (65535 - cy)) = (65535 - cx) + (65535 - cy) := wsum_be2 _ _ (by omega) (by omega)
      have e2 : 65535 - cx = fold (wsum true xs) := by rw [← CX.out]; unfold ck; have := fold_le (wsum true xs); omega
      have e3 : 65535 - cy = fold (wsum true bs) := by rw [← CY.out]; unfold ck; have := fold_le (wsum true bs); omega
      unfold ck
      rw [e1, e2, e3, fold_add, wsum_append, par_even (by rw [← HL.out]; exact hLe)]
    go_wp2_with fail
    rw [HB.out]
    refine (Sum_one (w := w3.alloc (bytesObj (be2 (65535 - cx) ++ be2 (65535 - cy)))) (by simp) (show Rd _ (.slice (some ⟨w3.heap.size, 0, none⟩) 4 4) _ from Rd.of_obj (bytesObj_new w3 _) (Nat.le_refl _)) (by simp [be2])).mono ?_
    rintro e w4 ⟨he, hw4⟩
    rw [hck] at he
    subst he
    have M4 := Lib.hid (show Mine w w4 ga ca xs by subst hw4; exact (M3.out.alloc _).alloc _)
    clear hw4 M3 HB hck CX CY
    obtain ⟨gt, ct, w5, hrun, hmine, hgg, hkeep, -⟩ := (Mine.first M4.out.old).append xs (.slice (some ⟨ga, 0, none⟩) L ca) (by rw [HL.out]; exact (M4.out.alloc _).rd) (by have := HL.out; simp; omega)
    rw [List.nil_append, ← HL.out] at hrun
    rw [List.nil_append] at hmine
    have hne : ga ≠ gt := by
      have := M4.out.row.lt
      rw [World.size_alloc] at hgg
      omega
    have M5 := Lib.hid (show Mine w w5 ga ca xs from (M4.out.alloc _).other (hkeep ga (by have := M4.out.row.lt; simp; omega) (by have := M4.out.row.lt; omega)) hmine.old)
    have T5 := Lib.hid hmine
    have ER := Lib.hid hrun
    clear hrun hmine hgg hkeep M4
    go_wp2_with (at_builtin; refine wpList_append_eq rfl (.tmp 54) (.tmp 55) 32 rfl _ _ rfl rfl _ _ ER.out ?_)
    clear ER
    go_loopw [10] (fun i wr => ∃ k : Nat, k ≤ L ∧ i = .int .i64 (k : Int) ∧ Mine w wr ga ca xs ∧ Mine w wr gt ct (inv (xs.take k) ++ xs.drop k)) (fun i _ => L - (intOf i).toNat)
    case atStart => exact ⟨0, by omega, rfl, M5.out, by simpa [inv] using T5.out⟩
    case round =>
      obtain ⟨k, hk, rfl, m1, m2⟩ := hrel
      have MA := Lib.hid m1
      have MT := Lib.hid m2
      clear m1 m2 M5 T5
      by_cases hkL : k < L
      · have hkx : k < xs.length := by have := HL.out; omega
        obtain ⟨x, hx⟩ : ∃ x, xs[k]? = some x := ⟨xs[k], List.getElem?_eq_getElem hkx⟩
        have hxl := x.toNat_lt
        have k1 := MA.out.cell k x hx
        have hlt : (inv (xs.take k)).length = k := by unfold inv; rw [List.length_map, List.length_take]; omega
        have k2 := MT.out.cell k x (by rw [List.getElem?_append_right (by omega), hlt, Nat.sub_self, List.getElem?_drop, Nat.add_zero]; exact hx)
        have k3 := MT.out.free k
        have hset : (inv (xs.take k) ++ xs.drop k).set k (255 - x) = inv (xs.take (k + 1)) ++ xs.drop (k + 1) := by
          rw [List.set_append_right _ _ (by omega), hlt, Nat.sub_self, List.drop_eq_getElem_cons hkx]
          have hx' : xs[k] = x := by rw [List.getElem?_eq_getElem hkx] at hx; exact Option.some.inj hx
          rw [List.set_cons_zero, List.take_add_one, hx]
          unfold inv
          simp
        have MS := Lib.hid (show Mine w (wr.setCell ⟨gt, k, none⟩ (B8 (255 - x))) gt ct _ from hset ▸ MT.out.set k (255 - x))
        have MB := Lib.hid (show Mine w (wr.setCell ⟨gt, k, none⟩ (B8 (255 - x))) ga ca xs from MA.out.setOther hne MT.out.new _)
        have HV : Hid (B8 (255 - x) = .int .u8 (255 - (x.toNat : Int))) := by show _ = _; unfold B8; rw [inv_toNat]; congr 1; omega
        clear MA MT hset hlt
        rw [HV.out] at MS MB
        go_wp2_with fail
        exact ⟨⟨k + 1, by omega, by go_num, MB.out, MS.out⟩, by simp [intOf]; omega⟩
      · have hkL' : k = L := by omega
        have hfin : inv (xs.take k) ++ xs.drop k = inv xs := by rw [hkL', HL.out, List.take_length, List.drop_length, List.append_nil]
        have MV := Lib.hid (show Mine w wr gt ct (inv xs) from hfin ▸ MT.out)
        have hil : (inv xs).length = L := by unfold inv; rw [List.length_map, ← HL.out]
        have HI := Lib.hid hil
        have RA : Hid (Rd wr (.slice (some ⟨ga, 0, none⟩) L ca) xs) := by show Rd _ _ _; rw [HL.out]; exact MA.out.rd
        clear MT hfin hil
        go_wp2_with fail
        refine (Sum_two rfl RA.out (H1.out.old MA.out.old) (by rw [← HL.out, L1.out]; omega)).mono ?_
        rintro e w6 ⟨rfl, hw6⟩
        have M6 := Lib.hid (show Mine w w6 ga ca xs by subst hw6; exact MA.out.alloc _)
        have V6 := Lib.hid (show Mine w w6 gt ct (inv xs) by subst hw6; exact MV.out.alloc _)
        clear hw6 MA MV RA
        by_cases hL0 : L = 0
        · have q : ((L : Int) == 0) = true := by rw [beq_iff_eq]; omega
          go_wp2_with fail
          go_ret
          exact ⟨rfl, M6.out.old⟩
        · have q : ((L : Int) == 0) = false := by rw [beq_eq_false_iff_ne]; omega
          have R6 : Hid (Rd w6 (.slice (some ⟨ga, 0, none⟩) L ca) xs) := by show Rd _ _ _; rw [HL.out]; exact M6.out.rd
          have W6 : Hid (Rd w6 (.slice (some ⟨gt, 0, none⟩) L ct) (inv xs)) := by show Rd _ _ _; rw [← HI.out]; exact V6.out.rd
          have hz : ck (xs ++ inv xs) = 0 := by
            unfold ck
            rw [wsum_append, par_even (by rw [← HL.out]; exact hLe), wsum_inv xs (by rw [← HL.out]; exact hLe), ← HL.out]
            unfold fold
            rw [if_neg (by omega)]
            omega
          go_wp2_with fail
          refine (Sum_two rfl R6.out W6.out (by rw [← HL.out, HI.out]; omega)).mono ?_
          rintro e w7 ⟨he, hw7⟩
          rw [hz] at he
          subst he
          have B7 := Lib.hid (show Below w.heap.size w w7 by subst hw7; exact M6.out.old.alloc M6.out.old.size _)
          clear hw7 M6 V6 R6 W6
          go_wp2_with fail
          go_ret
          exact ⟨rfl, B7.out⟩
end Go.Proofs.Ytphmgnlhnaobkaa
