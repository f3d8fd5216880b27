/-
  What is proved: the document's Size, Three, Number of layer 11, and 'said' of the laws of layer 12, by contract.
  Conditions: none of its own.
-/
import Derived.Test.YtnjohgfhagoppaaDoorGvSame
import Derived.Deep.RegionHeldLaw
namespace Go.Proofs.YtnjohgfhagoppaaDoor
open Go.RowKit

theorem rsize_any (n : Nat) (w : World) : Calls Tryd.prog 33 #[.int .i64 (n : Int)] w fun e w' => e = .returned (.int .i64 (frameWrong n : Nat)) ∧ w = w' := by
  unfold frameWrong
  by_cases h1 : n < 14
  · rw [if_pos h1]
    go_enter Tryd.func33, Tryd.ntmps33
    go_wp2_with fail
    go_ret
    exact ⟨rfl, rfl⟩
  · rw [if_neg h1]
    by_cases h2 : 9000 < n
    · rw [if_pos h2]
      go_enter Tryd.func33, Tryd.ntmps33
      go_wp2_with fail
      go_ret
      exact ⟨rfl, rfl⟩
    · rw [if_neg h2]
      go_enter Tryd.func33, Tryd.ntmps33
      go_wp2_with fail
      go_ret
      exact ⟨rfl, rfl⟩
def three (n : Nat) : List UInt8 := [UInt8.ofNat (n / 65536), UInt8.ofNat (n / 256), UInt8.ofNat n]
theorem u8_wrapN (n : Nat) : IntKind.u8.wrap (n : Int) = ((UInt8.ofNat n).toNat : Int) := by
  have h1 : IntKind.u8.bits = 8 := rfl
  have h2 : IntKind.u8.signed = false := rfl
  rw [ofNat_lt]
  simp [IntKind.wrap, h1, h2]
theorem rthree_any (n : Nat) (hn : n < 16777216) (w : World) : Calls Tryd.prog 34 #[.int .u32 (n : Int)] w fun e w' => e = .returned (.string (txt (three n))) ∧ Below w.heap.size w w' := by
  have a1 : IntKind.u8.wrap ((n : Int) / 65536) = ((UInt8.ofNat (n / 65536)).toNat : Int) := by rw [← u8_wrapN]; congr 1
  have a2 : IntKind.u8.wrap ((n : Int) / 256 % 256) = ((UInt8.ofNat (n / 256)).toNat : Int) := by rw [ofNat_lt]; have := u8_wrapN (n / 256 % 256); rw [ofNat_lt, Nat.mod_mod] at this; rw [← this]; congr 1
  have a3 : IntKind.u8.wrap ((n : Int) % 256) = ((UInt8.ofNat n).toNat : Int) := by rw [ofNat_lt]; have := u8_wrapN (n % 256); rw [ofNat_lt, Nat.mod_mod] at this; rw [← this]; congr 1
  have hb : Below w.heap.size w (w.alloc (bytesObj (three n))) := (Below.refl _ _).alloc (Nat.le_refl _) _
  have hcv := convert_rd (Rd.of_obj (c := 3) (bytesObj_new w (three n)) (Nat.le_refl _))
  have HB := Lib.hid hb
  have hcv' : (convert 23 9 (.slice (some ⟨w.heap.size, 0, none⟩) 3 3)).run Tryd.prog (w.alloc (.cells #[.int .u8 ((UInt8.ofNat (n / 65536)).toNat : Int), .int .u8 ((UInt8.ofNat (n / 256)).toNat : Int), .int .u8 ((UInt8.ofNat n).toNat : Int)] 5)) = .ok (.string (txt (three n))) (w.alloc (.cells #[.int .u8 ((UInt8.ofNat (n / 65536)).toNat : Int), .int .u8 ((UInt8.ofNat (n / 256)).toNat : Int), .int .u8 ((UInt8.ofNat n).toNat : Int)] 5)) := hcv
  clear hcv hb
  have HB' : Hid (Below w.heap.size w (w.alloc (.cells #[.int .u8 ((UInt8.ofNat (n / 65536)).toNat : Int), .int .u8 ((UInt8.ofNat (n / 256)).toNat : Int), .int .u8 ((UInt8.ofNat n).toNat : Int)] 5))) := HB.out
  clear HB
  generalize txt (three n) = T at *
  generalize ((UInt8.ofNat (n / 65536)).toNat : Int) = x1 at *
  generalize ((UInt8.ofNat (n / 256)).toNat : Int) = x2 at *
  generalize ((UInt8.ofNat n).toNat : Int) = x3 at *
  go_enter Tryd.func34, Tryd.ntmps34
  go_wp2_with fail
  go_ret
  exact ⟨rfl, HB'.out⟩
theorem rnumber_any (a b c : UInt8) (w : World) : Calls Tryd.prog 38 #[.string (txt [a, b, c])] w fun e w' => e = .returned (.int .u32 (((a.toNat * 256 + b.toNat) * 256 + c.toNat : Nat) : Int)) ∧ w = w' := by
  have la := a.toNat_lt
  have lb := b.toNat_lt
  have lc := c.toNat_lt
  have e : ((((a.toNat * 256 + b.toNat) * 256 + c.toNat : Nat)) : Int) = 256 * (256 * (a.toNat : Int) + (b.toNat : Int)) + (c.toNat : Int) := by omega
  rw [e]
  clear e
  unfold txt
  go_enter Tryd.func38, Tryd.ntmps38
  go_wp2_with fail
  refine wp_loop_rounds 4 ?_
  rw [rounds_succ]
  go_wp2_with fail
  rw [rounds_succ]
  go_wp2_with fail
  rw [rounds_succ]
  go_wp2_with fail
  rw [rounds_succ]
  go_wp2_with fail
  go_ret
  refine ⟨?_, rfl⟩
  show Ending.returned (.int .u32 ((256 * ((256 * ((a.toNat : Int) % 4294967296) + (b.toNat : Int)) % 4294967296) % 4294967296 + (c.toNat : Int) % 4294967296) % 4294967296)) = _
  congr 2
  omega
theorem xtxt_index (ys : List UInt8) (i : Nat) (x : UInt8) (hx : ys[i]? = some x) (z : Int) (hz : z = (i : Int)) (W : World) : (Instr.index 9 (.string (txt ys)) (.int .i64 z)).run Tryd.prog W = .ok (.int .u8 (x.toNat : Int)) W := by
  subst hz
  have hl : i < ys.length := (List.getElem?_eq_some_iff.1 hx).1
  rw [run_index_string W 9 (txt ys) .i64 (i : Int) Tryd.underlying9, dif_pos ⟨by omega, by rw [txt_size]; omega⟩]
  have e : (txt ys)[(i : Int).toNat]'(by rw [txt_size]; omega) = x := by
    rw [List.getElem?_eq_getElem hl] at hx
    exact Option.some.inj hx
  rw [e]
theorem xtxt_mid (bs : List UInt8) (a b : Nat) : (txt bs).extract a b = txt ((bs.drop a).take (b - a)) := by
  apply ByteArray.ext
  rw [ByteArray.data_extract]
  simp [txt, List.extract_eq_take_drop]
/-- said, of what went well. -/
theorem said_ok (b : Bool) (w : World) : Calls Tryd.prog 22 #[.nilIface, .int .i64 0, .bool b] w fun e w' => e = .returned (.bool true) ∧ Below w.heap.size w w' := by
  go_enter Tryd.func22, Tryd.ntmps22
  go_wp2_with fail
  go_ret
  exact ⟨rfl, Below.refl _ _⟩
theorem said_err (n : Nat) (hn : n < 14) (h0 : n ≠ 0) (l : List ByteArray) (b : Bool) (hl : l = if b then [gvWord, octetsWord] else [gvWord]) (v : Value) (w : World) (hg : Hdl w) (hc : Chain w n l v) :
    Calls Tryd.prog 22 #[v, .int .i64 (n : Int), .bool b] w fun e w' => e = .returned (.bool true) ∧ Below w.heap.size w w' := by
  obtain ⟨s, r, rfl⟩ : ∃ s r, l = s :: r := by cases b <;> exact ⟨_, _, hl⟩
  obtain ⟨g, x, rfl, k0, k1, k2⟩ := hc
  have hz : (text n (s :: r)).size ≤ 1000000000 := by
    have hd := dec_size n
    have h1 : (text n [gvWord, octetsWord]).size = 22 + (dec n).size := by
      show (gvWord ++ colon ++ (octetsWord ++ colon ++ (errorWord ++ dec n))).size = _
      simp only [ByteArray.size_append]
      show 6 + 2 + (6 + 2 + (6 + _)) = _
      omega
    have h2 : (text n [gvWord]).size = 14 + (dec n).size := by
      show (gvWord ++ colon ++ (errorWord ++ dec n)).size = _
      simp only [ByteArray.size_append]
      show 6 + 2 + (6 + _) = _
      omega
    cases b
    · rw [hl]; simp only [Bool.false_eq_true, if_false]; omega
    · rw [hl]; simp only [if_true]; omega
  have hc' : Chain w n (s :: r) (.iface 92 (.pointer (some ⟨g, 0, none⟩))) := ⟨g, x, rfl, k0, k1, k2⟩
  have HT : Hid (∀ W, Below w.heap.size w W → Calls Tryd.prog 97 #[.pointer (some ⟨g, 0, none⟩)] W fun e w' => e = .returned (.string (text n (s :: r))) ∧ ∃ m, w' = W.drewN m) := fun W hb =>
    wrong_text n hn r g s x W hz ((hb.cell (World.block_lt_of_cell? w _ k0)).trans k0) ((hb.cell (World.block_lt_of_cell? w _ k1)).trans k1) (k2.below hb)
  have HI := Lib.hid (is_any n n _ _ w hc')
  have HC := Lib.hid (code_any n _ _ w hg hc')
  have f1 := methodErrorW
  have h0' : ¬ (n : Int) = 0 := by omega
  have hs : (text n []).size = 6 + (dec n).size := by show (errorWord ++ dec n).size = _; rw [ByteArray.size_append]; rfl
  have hd := dec_size n
  have HE : Hid (∀ W, _) := fun W => errno_text n W hn
  have ht : text n (s :: r) = (if b then (⟨#[103, 101, 110, 101, 118, 101, 58, 32, 111, 99, 116, 101, 116, 115, 58, 32]⟩ : ByteArray) else ⟨#[103, 101, 110, 101, 118, 101, 58, 32]⟩) ++ text n [] := by
    rw [hl]
    cases b
    · show gvWord ++ colon ++ text n [] = _
      rfl
    · show gvWord ++ colon ++ (octetsWord ++ colon ++ text n []) = _
      rw [← ByteArray.append_assoc]
      rfl
  rw [ht] at HT
  clear ht hz k0 k1 k2 hc' hl hg h0 hn
  have hs20 : ¬ 9223372036854775807 < 16 + (text n []).size := by omega
  have hs7 : ¬ 9223372036854775807 < 8 + (text n []).size := by omega
  generalize text n [] = T at *
  have hnn : ((n : Int) == (n : Int)) = true := by simp
  generalize (n : Int) = z at *
  clear hs hd
  cases b
  · simp only [Bool.false_eq_true, if_false] at HT
    go_enter Tryd.func22, Tryd.ntmps22
    go_wp2_with fail
    refine HI.out.mono ?_
    rintro e w' ⟨he, rfl⟩
    rw [hnn] at he
    subst he
    go_wp2_with fail
    refine HC.out.mono ?_
    rintro e w1 ⟨rfl, hb1⟩
    have HB1 := Lib.hid hb1
    clear hb1
    go_wp2_with fail
    refine (HT.out _ HB1.out).mono ?_
    rintro e w2 ⟨rfl, m, rfl⟩
    go_wp2_with fail
    refine (HE.out _).mono ?_
    rintro e w' ⟨rfl, rfl⟩
    go_wp2_with fail
    go_ret
    exact ⟨rfl, gbelow_drawn HB1.out⟩
  · simp only [if_true] at HT
    go_enter Tryd.func22, Tryd.ntmps22
    go_wp2_with fail
    refine HI.out.mono ?_
    rintro e w' ⟨he, rfl⟩
    rw [hnn] at he
    subst he
    go_wp2_with fail
    refine HC.out.mono ?_
    rintro e w1 ⟨rfl, hb1⟩
    have HB1 := Lib.hid hb1
    clear hb1
    go_wp2_with fail
    refine (HT.out _ HB1.out).mono ?_
    rintro e w2 ⟨rfl, m, rfl⟩
    go_wp2_with fail
    refine (HE.out _).mono ?_
    rintro e w' ⟨rfl, rfl⟩
    go_wp2_with fail
    go_ret
    exact ⟨rfl, gbelow_drawn HB1.out⟩
end Go.Proofs.YtnjohgfhagoppaaDoor
