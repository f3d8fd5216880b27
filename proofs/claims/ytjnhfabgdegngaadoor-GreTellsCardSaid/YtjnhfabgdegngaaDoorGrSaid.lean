/-
  What is proved: the document's Size, Three, Number of layer 11, its four of layer 13, and 'said' and 'same' of the laws of layer 13, by contract.
  Conditions: none of its own.
-/
import Derived.Test.YtjnhfabgdegngaaDoorGrShown
import Derived.Test.YtjnhfabgdegngaaDoorGrFacts
import Derived.Test.YtjnhfabgdegngaaDoorSRef
import Derived.Deep.RegionLaw
import Derived.Deep.RegionHeldLaw
namespace Go.Proofs.YtjnhfabgdegngaaDoor
open Go.RowKit

theorem rsize_any (n : Nat) (w : World) : Calls Tryd.prog 20 #[.int .i64 (n : Int)] w fun e w' => e = .returned (.int .i64 (frameWrong n : Nat)) ∧ w = w' := by
  unfold frameWrong
  by_cases h1 : n < 14
  · rw [if_pos h1]
    go_enter Tryd.func20, Tryd.ntmps20
    go_wp2_with fail
    go_ret
    exact ⟨rfl, rfl⟩
  · rw [if_neg h1]
    by_cases h2 : 9000 < n
    · rw [if_pos h2]
      go_enter Tryd.func20, Tryd.ntmps20
      go_wp2_with fail
      go_ret
      exact ⟨rfl, rfl⟩
    · rw [if_neg h2]
      go_enter Tryd.func20, Tryd.ntmps20
      go_wp2_with fail
      go_ret
      exact ⟨rfl, rfl⟩
def three (n : Nat) : List UInt8 := [UInt8.ofNat (n / 65536), UInt8.ofNat (n / 256), UInt8.ofNat n]
theorem u8_wrapN (n : Nat) : IntKind.u8.wrap (n : Int) = ((UInt8.ofNat n).toNat : Int) := by
  have h1 : IntKind.u8.bits = 8 := rfl
  have h2 : IntKind.u8.signed = false := rfl
  rw [ofNat_lt]
  simp [IntKind.wrap, h1, h2]
theorem rthree_any (n : Nat) (hn : n < 16777216) (w : World) : Calls Tryd.prog 39 #[.int .u32 (n : Int)] w fun e w' => e = .returned (.string (txt (three n))) ∧ Below w.heap.size w w' := by
  have a1 : IntKind.u8.wrap ((n : Int) / 65536) = ((UInt8.ofNat (n / 65536)).toNat : Int) := by rw [← u8_wrapN]; congr 1
  have a2 : IntKind.u8.wrap ((n : Int) / 256 % 256) = ((UInt8.ofNat (n / 256)).toNat : Int) := by rw [ofNat_lt]; have := u8_wrapN (n / 256 % 256); rw [ofNat_lt, Nat.mod_mod] at this; rw [← this]; congr 1
  have a3 : IntKind.u8.wrap ((n : Int) % 256) = ((UInt8.ofNat n).toNat : Int) := by rw [ofNat_lt]; have := u8_wrapN (n % 256); rw [ofNat_lt, Nat.mod_mod] at this; rw [← this]; congr 1
  have hb : Below w.heap.size w (w.alloc (bytesObj (three n))) := (Below.refl _ _).alloc (Nat.le_refl _) _
  have hcv := convert_rd (Rd.of_obj (c := 3) (bytesObj_new w (three n)) (Nat.le_refl _))
  have HB := Lib.hid hb
  have hcv' : (convert 25 9 (.slice (some ⟨w.heap.size, 0, none⟩) 3 3)).run Tryd.prog (w.alloc (.cells #[.int .u8 ((UInt8.ofNat (n / 65536)).toNat : Int), .int .u8 ((UInt8.ofNat (n / 256)).toNat : Int), .int .u8 ((UInt8.ofNat n).toNat : Int)] 5)) = .ok (.string (txt (three n))) (w.alloc (.cells #[.int .u8 ((UInt8.ofNat (n / 65536)).toNat : Int), .int .u8 ((UInt8.ofNat (n / 256)).toNat : Int), .int .u8 ((UInt8.ofNat n).toNat : Int)] 5)) := hcv
  clear hcv hb
  have HB' : Hid (Below w.heap.size w (w.alloc (.cells #[.int .u8 ((UInt8.ofNat (n / 65536)).toNat : Int), .int .u8 ((UInt8.ofNat (n / 256)).toNat : Int), .int .u8 ((UInt8.ofNat n).toNat : Int)] 5))) := HB.out
  clear HB
  generalize txt (three n) = T at *
  generalize ((UInt8.ofNat (n / 65536)).toNat : Int) = x1 at *
  generalize ((UInt8.ofNat (n / 256)).toNat : Int) = x2 at *
  generalize ((UInt8.ofNat n).toNat : Int) = x3 at *
  go_enter Tryd.func39, Tryd.ntmps39
  go_wp2_with fail
  go_ret
  exact ⟨rfl, HB'.out⟩
theorem rnumber4_any (a b c d : UInt8) (w : World) : Calls Tryd.prog 27 #[.string (txt [a, b, c, d])] w fun e w' => e = .returned (.int .u32 ((((a.toNat * 256 + b.toNat) * 256 + c.toNat) * 256 + d.toNat : Nat) : Int)) ∧ w = w' := by
  have la := a.toNat_lt
  have lb := b.toNat_lt
  have lc := c.toNat_lt
  have ld := d.toNat_lt
  have e : ((((a.toNat * 256 + b.toNat) * 256 + c.toNat) * 256 + d.toNat : Nat) : Int) = 256 * (256 * (256 * (a.toNat : Int) + (b.toNat : Int)) + (c.toNat : Int)) + (d.toNat : Int) := by omega
  rw [e]
  clear e
  unfold txt
  go_enter Tryd.func27, Tryd.ntmps27
  go_wp2_with fail
  refine wp_loop_rounds 5 ?_
  rw [rounds_succ]
  go_wp2_with fail
  rw [rounds_succ]
  go_wp2_with fail
  rw [rounds_succ]
  go_wp2_with fail
  rw [rounds_succ]
  go_wp2_with fail
  rw [rounds_succ]
  go_wp2_with fail
  go_ret
  refine ⟨?_, rfl⟩
  show Ending.returned (.int .u32 ((256 * ((256 * ((256 * ((a.toNat : Int) % 4294967296) + (b.toNat : Int)) % 4294967296) + (c.toNat : Int)) % 4294967296) % 4294967296 + (d.toNat : Int) % 4294967296) % 4294967296)) = _
  congr 2
  omega
theorem ofNat_mod {a b : Nat} (h : a % 256 = b % 256) : UInt8.ofNat a = UInt8.ofNat b := UInt8.toNat_inj.1 (by rw [ofNat_lt, ofNat_lt, h])
theorem be4_three (n : Nat) : be4 n = UInt8.ofNat (n / 16777216) :: three (n % 16777216) := by
  unfold be4 three
  rw [ofNat_mod (a := n % 16777216 / 65536) (b := n / 65536) (by omega), ofNat_mod (a := n % 16777216 / 256) (b := n / 256) (by omega), ofNat_mod (a := n % 16777216) (b := n) (by omega)]
set_option maxHeartbeats 2000000 in
theorem rfour_any (n : Nat) (hn : n < 4294967296) (w : World) : Calls Tryd.prog 21 #[.int .u32 (n : Int)] w fun e w' => e = .returned (.string (txt (be4 n))) ∧ Below w.heap.size w w' := by
  have a0 : Int.tdiv (n : Int) 16777216 = ((n / 16777216 : Nat) : Int) := by rw [Int.tdiv_eq_ediv_of_nonneg (by omega)]; omega
  have a1 : IntKind.u8.wrap (IntKind.u32.wrap (Int.tdiv (n : Int) 16777216)) = ((UInt8.ofNat (n / 16777216)).toNat : Int) := by
    rw [a0, IntKind.wrap_u32', ← u8_wrapN]
    congr 1
    omega
  obtain ⟨y, hy⟩ : ∃ y : Int, y = ((UInt8.ofNat (n / 16777216)).toNat : Int) := ⟨_, rfl⟩
  rw [← hy] at a1
  have a2 : Int.tmod (n : Int) 16777216 = ((n % 16777216 : Nat) : Int) := by rw [Int.tmod_eq_emod_of_nonneg (by omega)]; omega
  have a3 : IntKind.u32.wrap ((n % 16777216 : Nat) : Int) = ((n % 16777216 : Nat) : Int) := by rw [IntKind.wrap_u32']; omega
  have H3 : Hid (∀ W, _) := fun W => rthree_any (n % 16777216) (by omega) W
  have HCA : Hid (∀ W : World, _) := fun W => convert_byte W (UInt8.ofNat (n / 16777216)) y hy
  have hT : txt [UInt8.ofNat (n / 16777216)] ++ txt (three (n % 16777216)) = txt (be4 n) := by rw [txt_append, be4_three]; rfl
  have h1s : (txt [UInt8.ofNat (n / 16777216)]).size = 1 := rfl
  have h3s : (txt (three (n % 16777216))).size = 3 := rfl
  have HRd : Hid (∀ W : World, Rd (W.alloc (.cells #[.int .u8 y] 5)) (.slice (some ⟨W.heap.size, 0, none⟩) 1 1) [UInt8.ofNat (n / 16777216)]) := fun W => by
    rw [hy]
    exact Rd.of_obj (c := 1) (bytesObj_new W [UInt8.ofNat (n / 16777216)]) (Nat.le_refl _)
  have HT := Lib.hid hT
  clear hT hy
  generalize n % 16777216 = m at *
  generalize txt (three m) = T3 at *
  generalize txt (be4 n) = T4 at *
  have HCB : Hid (∀ W : World, Below (w.alloc (.cells #[.int .u8 y] 5)).drew.heap.size (w.alloc (.cells #[.int .u8 y] 5)).drew W → (convert 25 9 (.slice (some ⟨w.heap.size, 0, none⟩) 1 1)).run Tryd.prog W = .ok (.string (txt [UInt8.ofNat (n / 16777216)])) W) := fun W hW => convert_rd (((HRd.out w).below (below_drew _)).below hW)
  have cv1 := HCB.out _ (Below.refl _ _)
  have HA1 : Hid (Below w.heap.size w (w.alloc (.cells #[.int .u8 y] 5)).drew) := ((Below.refl _ _).alloc (Nat.le_refl _) _).trans (below_drew _ |> fun h => h.mono (by simp))
  generalize txt [UInt8.ofNat (n / 16777216)] = T1 at *
  clear hn a0
  generalize ((m : Nat) : Int) = z2 at *
  generalize (n : Int) = z at *
  go_enter Tryd.func21, Tryd.ntmps21
  go_upto_region 1 with fail
  go_region_law (first
    | (go_simp; go_at_call 39; (with_reducible refine (H3.out w.drew).mono ?_); rintro e w3 ⟨rfl, hb⟩; (have HX := Lib.hid (below_to (below_drew w) hb (below_drew w).size)); (have cvX := HCA.out w3); clear hb)
    | (go_simp; go_at_call 39; refine (H3.out _).mono ?_; rintro e w3 ⟨rfl, hb⟩; (have HX := Lib.hid (below_to HA1.out hb HA1.out.size)); (have cvX := HCB.out w3 hb); clear hb))
  all_goals
    go_wp2_with fail
    go_ret
    refine ⟨?_, ?_⟩
    · rw [← HT.out]
      simp [Act.put]
    · first
        | exact HX.out
        | exact gbelow_al HX.out _
theorem xtxt_index (ys : List UInt8) (i : Nat) (x : UInt8) (hx : ys[i]? = some x) (z : Int) (hz : z = (i : Int)) (W : World) : (Instr.index 9 (.string (txt ys)) (.int .i64 z)).run Tryd.prog W = .ok (.int .u8 (x.toNat : Int)) W := by
  subst hz
  have hl : i < ys.length := (List.getElem?_eq_some_iff.1 hx).1
  rw [run_index_string W 9 (txt ys) .i64 (i : Int) Tryd.underlying9, dif_pos ⟨by omega, by rw [txt_size]; omega⟩]
  have e : (txt ys)[(i : Int).toNat]'(by rw [txt_size]; omega) = x := by
    rw [List.getElem?_eq_getElem hl] at hx
    exact Option.some.inj hx
  rw [e]
theorem xtxt_mid (bs : List UInt8) (a b : Nat) : (txt bs).extract a b = txt ((bs.drop a).take (b - a)) := by
  apply ByteArray.ext
  rw [ByteArray.data_extract]
  simp [txt, List.extract_eq_take_drop]
theorem gbelow_drawn {n k : Nat} {w W : World} (h : Below n w W) : Below n w (W.drewN k) := ⟨h.os, h.tape, h.output, h.size, h.block⟩
/-- said, of what went well. -/
theorem said_ok (b : Bool) (w : World) : Calls Tryd.prog 10 #[.nilIface, .int .i64 0, .bool b] w fun e w' => e = .returned (.bool true) ∧ Below w.heap.size w w' := by
  go_enter Tryd.func10, Tryd.ntmps10
  go_wp2_with fail
  go_ret
  exact ⟨rfl, Below.refl _ _⟩
theorem said_err (n : Nat) (hn : n < 14) (h0 : n ≠ 0) (l : List ByteArray) (b : Bool) (hl : l = if b then [grWord, octetsWord] else [grWord]) (v : Value) (w : World) (hg : Hdl w) (hc : Chain w n l v) :
    Calls Tryd.prog 10 #[v, .int .i64 (n : Int), .bool b] w fun e w' => e = .returned (.bool true) ∧ Below w.heap.size w w' := by
  obtain ⟨s, r, rfl⟩ : ∃ s r, l = s :: r := by cases b <;> exact ⟨_, _, hl⟩
  obtain ⟨g, x, rfl, k0, k1, k2⟩ := hc
  have hz : (text n (s :: r)).size ≤ 1000000000 := by
    have hd := dec_size n
    have h1 : (text n [grWord, octetsWord]).size = 19 + (dec n).size := by
      show (grWord ++ colon ++ (octetsWord ++ colon ++ (errorWord ++ dec n))).size = _
      simp only [ByteArray.size_append]
      show 3 + 2 + (6 + 2 + (6 + _)) = _
      omega
    have h2 : (text n [grWord]).size = 11 + (dec n).size := by
      show (grWord ++ colon ++ (errorWord ++ dec n)).size = _
      simp only [ByteArray.size_append]
      show 3 + 2 + (6 + _) = _
      omega
    cases b
    · rw [hl]; simp only [Bool.false_eq_true, if_false]; omega
    · rw [hl]; simp only [if_true]; omega
  have hc' : Chain w n (s :: r) (.iface 74 (.pointer (some ⟨g, 0, none⟩))) := ⟨g, x, rfl, k0, k1, k2⟩
  have HT : Hid (∀ W, Below w.heap.size w W → Calls Tryd.prog 86 #[.pointer (some ⟨g, 0, none⟩)] W fun e w' => e = .returned (.string (text n (s :: r))) ∧ ∃ m, w' = W.drewN m) := fun W hb =>
    wrong_text n hn r g s x W hz ((hb.cell (World.block_lt_of_cell? w _ k0)).trans k0) ((hb.cell (World.block_lt_of_cell? w _ k1)).trans k1) (k2.below hb)
  have HI := Lib.hid (is_any n n _ _ w hc')
  have HC := Lib.hid (code_any n _ _ w hg hc')
  have f1 := methodErrorW
  have h0' : ¬ (n : Int) = 0 := by omega
  have hs : (text n []).size = 6 + (dec n).size := by show (errorWord ++ dec n).size = _; rw [ByteArray.size_append]; rfl
  have hd := dec_size n
  have HE : Hid (∀ W, _) := fun W => errno_text n W hn
  have ht : text n (s :: r) = (if b then (⟨#[103, 114, 101, 58, 32, 111, 99, 116, 101, 116, 115, 58, 32]⟩ : ByteArray) else ⟨#[103, 114, 101, 58, 32]⟩) ++ text n [] := by
    rw [hl]
    cases b
    · show grWord ++ colon ++ text n [] = _
      rfl
    · show grWord ++ colon ++ (octetsWord ++ colon ++ text n []) = _
      rw [← ByteArray.append_assoc]
      rfl
  rw [ht] at HT
  clear ht hz k0 k1 k2 hc' hl hg h0 hn
  have hs20 : ¬ 9223372036854775807 < 13 + (text n []).size := by omega
  have hs7 : ¬ 9223372036854775807 < 5 + (text n []).size := by omega
  generalize text n [] = T at *
  have hnn : ((n : Int) == (n : Int)) = true := by simp
  generalize (n : Int) = z at *
  clear hs hd
  cases b
  · simp only [Bool.false_eq_true, if_false] at HT
    go_enter Tryd.func10, Tryd.ntmps10
    go_wp2_with fail
    refine HI.out.mono ?_
    rintro e w' ⟨he, rfl⟩
    rw [hnn] at he
    subst he
    go_wp2_with fail
    refine HC.out.mono ?_
    rintro e w1 ⟨rfl, hb1⟩
    have HB1 := Lib.hid hb1
    clear hb1
    go_wp2_with fail
    refine (HT.out _ HB1.out).mono ?_
    rintro e w2 ⟨rfl, m, rfl⟩
    go_wp2_with fail
    refine (HE.out _).mono ?_
    rintro e w' ⟨rfl, rfl⟩
    go_wp2_with fail
    go_ret
    exact ⟨rfl, gbelow_drawn HB1.out⟩
  · simp only [if_true] at HT
    go_enter Tryd.func10, Tryd.ntmps10
    go_wp2_with fail
    refine HI.out.mono ?_
    rintro e w' ⟨he, rfl⟩
    rw [hnn] at he
    subst he
    go_wp2_with fail
    refine HC.out.mono ?_
    rintro e w1 ⟨rfl, hb1⟩
    have HB1 := Lib.hid hb1
    clear hb1
    go_wp2_with fail
    refine (HT.out _ HB1.out).mono ?_
    rintro e w2 ⟨rfl, m, rfl⟩
    go_wp2_with fail
    refine (HE.out _).mono ?_
    rintro e w' ⟨rfl, rfl⟩
    go_wp2_with fail
    go_ret
    exact ⟨rfl, gbelow_drawn HB1.out⟩
end Go.Proofs.YtjnhfabgdegngaaDoor
