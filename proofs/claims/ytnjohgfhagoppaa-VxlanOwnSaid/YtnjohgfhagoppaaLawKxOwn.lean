/-
  What is proved: the law VxlanOwn answers true for any id and frame, and leaves all older memory as it was.
  Conditions: the slice is of fewer than 2^63 bytes.
-/
import Derived.Test.YtnjohgfhagoppaaLawKxAgain
namespace Go.Proofs.Ytnjohgfhagoppaa
open Go.RowKit

/-- A block of 'N' bytes, whatever they are; all other blocks are as they were. -/
structure Ovr (w : World) (g N : Nat) (W : World) : Prop where
  ex : ∃ ys : List UInt8, ys.length = N ∧ W.heap[g]? = some (bytesObj ys)
  fr : Fr (fun x => x.block = g) w W
section
variable {w W : World} {g N : Nat}
theorem Ovr.start {l : List UInt8} (h : w.heap[g]? = some (bytesObj l)) (hl : l.length = N) : Ovr w g N w := ⟨⟨l, hl, h⟩, Fr.refl _ _⟩
theorem Ovr.cell (h : Ovr w g N W) {i : Nat} (hi : i < N) : ∃ v, W.cell? ⟨g, i, none⟩ = some v := by
  obtain ⟨ys, hl, hg⟩ := h.ex
  exact ⟨_, bytesCell hg i ys[i] (List.getElem?_eq_getElem (by omega))⟩
theorem Ovr.free (h : Ovr w g N W) (i : Nat) : W.frozen? ⟨g, i, none⟩ = false := by
  obtain ⟨ys, hl, hg⟩ := h.ex
  unfold bytesObj at hg
  simp [World.frozen?, hg]
theorem Ovr.set (h : Ovr w g N W) (i : Nat) (x : UInt8) : Ovr w g N (W.setCell ⟨g, i, none⟩ (B8 x)) := by
  obtain ⟨ys, hl, hg⟩ := h.ex
  refine ⟨⟨ys.set i x, by simpa using hl, ?_⟩, h.fr.set _ _ rfl⟩
  simp [World.setCell, Array.getElem?_modify, hg, bytesObj, List.map_set]
theorem Ovr.other (h : Ovr w g N W) {k : Nat} {o : Obj} (hk : k ≠ g) (ho : w.heap[k]? = some o) : W.heap[k]? = some o :=
  (h.fr.block k (Array.getElem?_eq_some_iff.1 ho).1 (fun _ hx e => hk (e.symm.trans hx))).trans ho
theorem Ovr.row (h : Ovr w g N W) {k c : Nat} {l : List UInt8} (hk : k ≠ g) (hr : Row w k c l) : Row W k c l := by
  obtain ⟨cur, h1, h2, h3⟩ := hr.ex
  exact ⟨⟨cur, h.other hk h1, h2, h3⟩, hr.fits⟩
theorem Ovr.below (h : Ovr w g N W) {B : Nat} (hB : B ≤ w.heap.size) (hg : B ≤ g) : Below B w W := h.fr.below hB (fun x hx => by have : x.block = g := hx; omega)
end
theorem eCode_fits {id n : Nat} (hid : id < 16777216) (h : eCode id n = 0) : 14 ≤ n ∧ n ≤ 9000 := by
  unfold eCode at h
  rw [if_neg (by omega)] at h
  unfold frameWrong at h
  by_cases k1 : n < 14
  · rw [if_pos k1] at h; cases h
  · rw [if_neg k1] at h
    by_cases k2 : 9000 < n
    · rw [if_pos k2] at h; cases h
    · omega
set_option maxRecDepth 100000 in
set_option maxHeartbeats 4000000 in
theorem kxOwn_any (id0 : Nat) (A : Option Addr) (c : Nat) (l0 : List UInt8) (w : World) (hid0 : id0 < 4294967296) (hc : c ≤ 9223372036854775807) (hr0 : Rd w (.slice A l0.length c) l0) :
    Calls Try.prog 5 #[.int .u32 (id0 : Int), .slice A l0.length c] w fun e w' => e = .returned (.bool true) ∧ Below w.heap.size w w' := by
  have hlc := hr0.cap_le
  obtain ⟨l, hl, hr⟩ := front10 l0 hr0
  have HF : Hid (∀ W, _) := fun W => kxfew_any A l0.length c W hc hlc l.length hl
  have hl2 : l.length ≤ 10000 := by omega
  have HR := Lib.hid hr
  have hx := xlow id0 hid0
  obtain ⟨id, hid⟩ : ∃ id, id = id0 % 16777216 := ⟨_, rfl⟩
  rw [← hid] at hx
  have hidl : id < 16777216 := by omega
  have HI : Hid (id < 16777216) := hidl
  clear hl hr hr0 hlc hid hid0 hidl
  generalize (id0 : Int) = z0 at *
  have HX := Lib.hid hx
  clear hx
  go_enter Try.func5, Try.ntmps5
  go_wp2_with fail
  refine (kxShown_any w).mono ?_
  rintro e w1 ⟨rfl, hb1⟩
  obtain ⟨g, gc, w2, hrun, hm, _, _, _⟩ := (Mine.first (Below.refl w1.heap.size w1)).append l (.slice A l.length c) ((HR.out.below hb1).below (below_al (Below.refl _ _) _)) (by simp; omega)
  rw [List.nil_append] at hrun hm
  have HB2 := Lib.hid (below_to hb1 hm.old hb1.size)
  have HM2 := Lib.hid hm
  have HS1 : Hid (w.heap.size ≤ w1.heap.size) := hb1.size
  have ER := Lib.hid hrun
  clear hb1 hrun hm HR
  go_upto_region 2 with fail
  go_wp2_with (fail)
  refine (HF.out _).mono ?_
  rintro e w' ⟨rfl, rfl⟩
  clear HF
  go_upto_region 3 with (at_builtin; refine wpList_append_eq rfl (.tmp 16) (.tmp 18) 23 rfl _ _ rfl rfl _ _ ER.out ?_)
  clear ER
  have hx := HX.out
  have v0 := convert_rd HM2.out.rd
  go_upto_region 5 with fail
  clear hx v0 HX
  have HE := Lib.hid (encap_any id _ gc l w2 HM2.out.rd)
  go_wp2_with fail
  refine HE.out.mono ?_
  rintro e w3 (⟨_, b, rfl, _, hb3⟩ | ⟨hcode, g3, he, hn3, ho3, hb3⟩)
  · have HB3 := Lib.hid (below_to HB2.out hb3 HB2.out.size)
    have v1 := convert_rd (HM2.out.rd.below hb3)
    clear hb3 HB2
    go_wp2_with fail
    go_ret
    exact ⟨rfl, HB3.out⟩
  · have hfw := eCode_fits HI.out hcode
    have hle : (xHd id ++ l).length = l.length + 8 := by rw [List.length_append, xHd_len]; omega
    have hd : Rd w3 (.slice (some ⟨g3, 0, none⟩) (xHd id ++ l).length (xHd id ++ l).length) (xHd id ++ l) := Rd.of_obj ho3 (Nat.le_refl _)
    have X3 := Lib.hid (xdecap_back id l HI.out hfw.1 hfw.2 hd)
    unfold XGood at X3
    rw [hle] at he X3
    subst he
    have HM3 := Lib.hid (HM2.out.below hb3)
    have HB3 := Lib.hid (below_to HB2.out hb3 HB2.out.size)
    have HLE := Lib.hid hle
    have HO3 := Lib.hid ho3
    have HN3 : Hid (g3 ≠ g ∧ w.heap.size ≤ g3) := by
      have h1 := HM2.out.row.lt
      have h2 := HB2.out.size
      exact ⟨by omega, by omega⟩
    clear hd hb3 ho3 hn3 hcode hfw hle HB2 HM2 HE
    go_wp2_with fail
    refine X3.out.mono ?_
    rintro e w4 ⟨g4, rfl, hn4, ho4, hb4⟩
    have HM4 := Lib.hid (HM3.out.below hb4)
    have HB4 := Lib.hid (below_to HB3.out hb4 HB3.out.size)
    have HX4 := Lib.hid ((hb4.block _ (Array.getElem?_eq_some_iff.1 HO3.out).1).trans HO3.out)
    have HP4 := Lib.hid ho4
    have HN4 : Hid (g4 ≠ g ∧ g4 ≠ g3 ∧ w.heap.size ≤ g4) := by
      have h1 := HM3.out.row.lt
      have h2 := HB3.out.size
      have h3 := (Array.getElem?_eq_some_iff.1 HO3.out).1
      exact ⟨by omega, by omega, by omega⟩
    clear hn4 ho4 hb4 HM3 HB3 HO3 X3
    obtain ⟨N, hN⟩ : ∃ N, N = l.length + 8 := ⟨_, rfl⟩
    have hN2 : N ≤ 20000 := by omega
    rw [← hN] at HLE ⊢
    have HNN := Lib.hid hN
    clear hN hl2
    go_upto_region 10 with fail
    go_loopw [12] (fun s wr => ∃ j : Nat, s = .int .i64 (j : Int) ∧ j ≤ N ∧ Ovr w4 g3 N wr) (fun s _ => N - (intOf s).toNat)
    case atStart => exact ⟨0, rfl, Nat.zero_le _, Ovr.start HX4.out HLE.out⟩
    case round =>
      obtain ⟨j, rfl, hj, hO⟩ := hrel
      have HO := Lib.hid hO
      clear hO
      by_cases hjl : j < N
      · have r1 : decide ((j : Int) < (N : Int)) = true := decide_eq_true (by omega)
        obtain ⟨v, q⟩ := HO.out.cell hjl
        have z := HO.out.free j
        go_wp2_with fail
        exact ⟨⟨j + 1, by simp, by omega, HO.out.set j 255⟩, by simp [intOf]; omega⟩
      · have r1 : decide ((j : Int) < (N : Int)) = false := decide_eq_false (by omega)
        have HM5 := Lib.hid (HO.out.row (fun e => HN3.out.1 e.symm) HM4.out.row)
        have HP5 := Lib.hid (HO.out.other HN4.out.2.1 HP4.out)
        have HB5 := Lib.hid (below_to HB4.out (HO.out.below HB4.out.size HN3.out.2) (Nat.le_refl _))
        have v1 := convert_rd HM5.out.rd
        have v2 := convert_rd (Rd.of_obj (c := l.length) HP5.out (Nat.le_refl _))
        have hl9 : l.length ≤ 20000 := by have := HNN.out; omega
        clear HO HM4 HP4 HB4 HX4 hj
        go_wp2_with fail
        clear v1 v2
        go_loopw [14] (fun s wx => ∃ j : Nat, s = .int .i64 (j : Int) ∧ j ≤ l.length ∧ Ovr wr g4 l.length wx) (fun s _ => l.length - (intOf s).toNat)
        case atStart => exact ⟨0, rfl, Nat.zero_le _, Ovr.start HP5.out rfl⟩
        case round =>
          obtain ⟨k, rfl, hk, hO⟩ := hrel
          have HO := Lib.hid hO
          clear hO r1
          by_cases hkl : k < l.length
          · have r1 : decide ((k : Int) < (l.length : Int)) = true := decide_eq_true (by omega)
            obtain ⟨v, q⟩ := HO.out.cell hkl
            have z := HO.out.free k
            go_wp2_with fail
            exact ⟨⟨k + 1, by simp, by omega, HO.out.set k 254⟩, by simp [intOf]; omega⟩
          · have r1 : decide ((k : Int) < (l.length : Int)) = false := decide_eq_false (by omega)
            have v1 := convert_rd (HO.out.row (fun e => HN4.out.1 e.symm) HM5.out).rd
            have HB6 := Lib.hid (below_to HB5.out (HO.out.below HB5.out.size HN4.out.2.2) (Nat.le_refl _))
            clear HO hk
            go_wp2_with fail
            go_ret
            exact ⟨rfl, HB6.out⟩
end Go.Proofs.Ytnjohgfhagoppaa
