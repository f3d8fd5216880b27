/-
  What is proved: the document's Size, Three, Number, Encap, Decap of layer 11, and 'said' of its laws, by contract.
  Conditions: the bytes are fewer than 2^39.
-/
import Derived.Test.YtnjohgfhagoppaaDoorLawKxBack
import Derived.BigQuiet
import Derived.Deep.QuietTactic
namespace Go.Proofs.YtnjohgfhagoppaaDoor
open Go.RowKit

theorem rsize_any (n : Nat) (w : World) : Calls Tryd.prog 33 #[.int .i64 (n : Int)] w fun e w' => e = .returned (.int .i64 (frameWrong n : Nat)) ∧ w = w' := by
  unfold frameWrong
  by_cases h1 : n < 14
  · rw [if_pos h1]
    go_enter Tryd.func33, Tryd.ntmps33
    go_wp2_with fail
    go_ret
    exact ⟨rfl, rfl⟩
  · rw [if_neg h1]
    by_cases h2 : 9000 < n
    · rw [if_pos h2]
      go_enter Tryd.func33, Tryd.ntmps33
      go_wp2_with fail
      go_ret
      exact ⟨rfl, rfl⟩
    · rw [if_neg h2]
      go_enter Tryd.func33, Tryd.ntmps33
      go_wp2_with fail
      go_ret
      exact ⟨rfl, rfl⟩
def three (n : Nat) : List UInt8 := [UInt8.ofNat (n / 65536), UInt8.ofNat (n / 256), UInt8.ofNat n]
theorem u8_wrapN (n : Nat) : IntKind.u8.wrap (n : Int) = ((UInt8.ofNat n).toNat : Int) := by
  have h1 : IntKind.u8.bits = 8 := rfl
  have h2 : IntKind.u8.signed = false := rfl
  rw [ofNat_lt]
  simp [IntKind.wrap, h1, h2]
theorem rthree_any (n : Nat) (hn : n < 16777216) (w : World) : Calls Tryd.prog 34 #[.int .u32 (n : Int)] w fun e w' => e = .returned (.string (txt (three n))) ∧ Below w.heap.size w w' := by
  have a1 : IntKind.u8.wrap ((n : Int) / 65536) = ((UInt8.ofNat (n / 65536)).toNat : Int) := by rw [← u8_wrapN]; congr 1
  have a2 : IntKind.u8.wrap ((n : Int) / 256 % 256) = ((UInt8.ofNat (n / 256)).toNat : Int) := by rw [ofNat_lt]; have := u8_wrapN (n / 256 % 256); rw [ofNat_lt, Nat.mod_mod] at this; rw [← this]; congr 1
  have a3 : IntKind.u8.wrap ((n : Int) % 256) = ((UInt8.ofNat n).toNat : Int) := by rw [ofNat_lt]; have := u8_wrapN (n % 256); rw [ofNat_lt, Nat.mod_mod] at this; rw [← this]; congr 1
  have hb : Below w.heap.size w (w.alloc (bytesObj (three n))) := (Below.refl _ _).alloc (Nat.le_refl _) _
  have hcv := convert_rd (Rd.of_obj (c := 3) (bytesObj_new w (three n)) (Nat.le_refl _))
  have HB := Lib.hid hb
  have hcv' : (convert 23 9 (.slice (some ⟨w.heap.size, 0, none⟩) 3 3)).run Tryd.prog (w.alloc (.cells #[.int .u8 ((UInt8.ofNat (n / 65536)).toNat : Int), .int .u8 ((UInt8.ofNat (n / 256)).toNat : Int), .int .u8 ((UInt8.ofNat n).toNat : Int)] 5)) = .ok (.string (txt (three n))) (w.alloc (.cells #[.int .u8 ((UInt8.ofNat (n / 65536)).toNat : Int), .int .u8 ((UInt8.ofNat (n / 256)).toNat : Int), .int .u8 ((UInt8.ofNat n).toNat : Int)] 5)) := hcv
  clear hcv hb
  have HB' : Hid (Below w.heap.size w (w.alloc (.cells #[.int .u8 ((UInt8.ofNat (n / 65536)).toNat : Int), .int .u8 ((UInt8.ofNat (n / 256)).toNat : Int), .int .u8 ((UInt8.ofNat n).toNat : Int)] 5))) := HB.out
  clear HB
  generalize txt (three n) = T at *
  generalize ((UInt8.ofNat (n / 65536)).toNat : Int) = x1 at *
  generalize ((UInt8.ofNat (n / 256)).toNat : Int) = x2 at *
  generalize ((UInt8.ofNat n).toNat : Int) = x3 at *
  go_enter Tryd.func34, Tryd.ntmps34
  go_wp2_with fail
  go_ret
  exact ⟨rfl, HB'.out⟩
theorem rnumber_any (a b c : UInt8) (w : World) : Calls Tryd.prog 38 #[.string (txt [a, b, c])] w fun e w' => e = .returned (.int .u32 (((a.toNat * 256 + b.toNat) * 256 + c.toNat : Nat) : Int)) ∧ w = w' := by
  have la := a.toNat_lt
  have lb := b.toNat_lt
  have lc := c.toNat_lt
  have e : ((((a.toNat * 256 + b.toNat) * 256 + c.toNat : Nat)) : Int) = 256 * (256 * (a.toNat : Int) + (b.toNat : Int)) + (c.toNat : Int) := by omega
  rw [e]
  clear e
  unfold txt
  go_enter Tryd.func38, Tryd.ntmps38
  go_wp2_with fail
  refine wp_loop_rounds 4 ?_
  rw [rounds_succ]
  go_wp2_with fail
  rw [rounds_succ]
  go_wp2_with fail
  rw [rounds_succ]
  go_wp2_with fail
  rw [rounds_succ]
  go_wp2_with fail
  go_ret
  refine ⟨?_, rfl⟩
  show Ending.returned (.int .u32 ((256 * ((256 * ((a.toNat : Int) % 4294967296) + (b.toNat : Int)) % 4294967296) % 4294967296 + (c.toNat : Int) % 4294967296) % 4294967296)) = _
  congr 2
  omega
/-- What the document's Encap answers. -/
theorem rencap_any (id : Nat) (hid : id < 4294967296) (l : List UInt8) (hL : l.length ≤ 549755813888) (w : World) :
    Calls Tryd.prog 9 #[.int .u32 (id : Int), .string (txt l)] w fun e w' => e = .returned (.tuple #[.string (if eCode id l.length = 0 then txt (xHd id ++ l) else ⟨#[]⟩), .int .i64 (eCode id l.length : Nat)]) ∧ Below w.heap.size w w' := by
  have hsz := txt_size l
  have HZ : Hid (∀ W, _) := fun W => rsize_any l.length W
  unfold eCode
  by_cases h1 : 16777216 ≤ id
  · rw [if_pos h1, if_neg (by decide)]
    have hB : decide ((16777216 : Int) ≤ (id : Int)) = true := decide_eq_true (by omega)
    clear h1 hid
    generalize (id : Int) = z at *
    go_enter Tryd.func9, Tryd.ntmps9
    go_wp2_with fail
    go_ret2
    exact ⟨rfl, Below.refl _ _⟩
  · rw [if_neg h1]
    have hB : decide ((16777216 : Int) ≤ (id : Int)) = false := decide_eq_false (by omega)
    have H3 : Hid (∀ W, _) := fun W => rthree_any id (by omega) W
    by_cases h2 : frameWrong l.length = 0
    · rw [if_pos h2]
      have e1 : (⟨#[8, 0, 0, 0]⟩ : ByteArray) ++ txt (three id) ++ ⟨#[0]⟩ ++ txt l = txt (xHd id ++ l) := by
        rw [show (⟨#[8, 0, 0, 0]⟩ : ByteArray) = txt [8, 0, 0, 0] from rfl, show (⟨#[0]⟩ : ByteArray) = txt [0] from rfl, txt_append, txt_append, txt_append]
        congr 2
        have hx : ∀ n : Nat, n < 16777216 → [8, 0, 0, 0] ++ three n ++ [0] = xHd n := by
          intro n hn
          have o : ∀ a b : Nat, a % 256 = b % 256 → UInt8.ofNat a = UInt8.ofNat b := fun a b h => by apply UInt8.toNat_inj.1; rw [ofNat_lt, ofNat_lt, h]
          unfold xHd three be4
          rw [o (n * 256 / 16777216) (n / 65536) (by omega), o (n * 256 / 65536) (n / 256) (by omega), o (n * 256 / 256) n (by omega), o (n * 256) 0 (by omega)]
          rfl
        exact hx id (by omega)
      rw [h2]
      rw [h2] at HZ
      have hs3 : (txt (three id)).size = 3 := rfl
      clear h1 hid h2
      generalize (id : Int) = z at *
      rw [← e1]
      clear e1
      generalize txt (three id) = T at *
      generalize txt l = F at *
      have k1 : ¬ 9223372036854775807 < 4 + T.size := by omega
      have k2 : ¬ 9223372036854775807 < 4 + T.size + 1 := by omega
      have k3 : ¬ 9223372036854775807 < 4 + T.size + 1 + F.size := by omega
      clear hs3 hL
      go_enter Tryd.func9, Tryd.ntmps9
      go_wp2_with fail
      refine (HZ.out _).mono ?_
      rintro e w' ⟨rfl, rfl⟩
      go_wp2_with fail
      refine (H3.out _).mono ?_
      rintro e w3 ⟨rfl, h3⟩
      have HB3 := Lib.hid h3
      clear h3
      go_wp2_with fail
      go_ret2
      exact ⟨rfl, HB3.out⟩
    · rw [if_neg h2]
      have h2' : ¬ ((frameWrong l.length : Nat) : Int) = 0 := by omega
      clear h1 hid h2 H3
      generalize (id : Int) = z at *
      generalize ((frameWrong l.length : Nat) : Int) = q at *
      go_enter Tryd.func9, Tryd.ntmps9
      go_wp2_with fail
      refine (HZ.out _).mono ?_
      rintro e w' ⟨rfl, rfl⟩
      go_wp2_with fail
      go_ret2
      exact ⟨rfl, Below.refl _ _⟩
theorem xtxt_index (ys : List UInt8) (i : Nat) (x : UInt8) (hx : ys[i]? = some x) (z : Int) (hz : z = (i : Int)) (W : World) : (Instr.index 9 (.string (txt ys)) (.int .i64 z)).run Tryd.prog W = .ok (.int .u8 (x.toNat : Int)) W := by
  subst hz
  have hl : i < ys.length := (List.getElem?_eq_some_iff.1 hx).1
  rw [run_index_string W 9 (txt ys) .i64 (i : Int) Tryd.underlying9, dif_pos ⟨by omega, by rw [txt_size]; omega⟩]
  have e : (txt ys)[(i : Int).toNat]'(by rw [txt_size]; omega) = x := by
    rw [List.getElem?_eq_getElem hl] at hx
    exact Option.some.inj hx
  rw [e]
theorem xtxt_mid (bs : List UInt8) (a b : Nat) : (txt bs).extract a b = txt ((bs.drop a).take (b - a)) := by
  apply ByteArray.ext
  rw [ByteArray.data_extract]
  simp [txt, List.extract_eq_take_drop]
theorem below_drawn {n k : Nat} {w W : World} (h : Below n w W) : Below n w (W.drewN k) := ⟨h.os, h.tape, h.output, h.size, h.block⟩
/-- What the document's Decap answers. -/
theorem rdecap_any (bs : List UInt8) (hL : bs.length ≤ 549755813888) (w : World) :
    Calls Tryd.prog 11 #[.string (txt bs)] w fun e w' => e = .returned (.tuple #[.int .u32 (if xCode bs = 0 then (xId bs : Int) else 0), .string (if xCode bs = 0 then txt (bs.drop 8) else ⟨#[]⟩), .int .i64 (xCode bs : Nat)]) ∧ Below w.heap.size w w' := by
  have hsz := txt_size bs
  unfold xCode
  by_cases h1 : bs.length < 8
  · rw [if_pos h1, if_neg (by decide), if_neg (by decide)]
    generalize txt bs = T at *
    have h1' : T.size < 8 := by omega
    clear hsz h1 hL
    go_enter Tryd.func11, Tryd.ntmps11
    go_wp2_with fail
    go_ret3
    exact ⟨rfl, Below.refl _ _⟩
  · rw [if_neg h1]
    obtain ⟨b0, b1, b2, b3, b4, b5, b6, b7, r, rfl⟩ := eight (by omega : 8 ≤ bs.length)
    have hrl : (b0 :: b1 :: b2 :: b3 :: b4 :: b5 :: b6 :: b7 :: r).length - 8 = r.length := by simp
    have hbit : xBit (b0 :: b1 :: b2 :: b3 :: b4 :: b5 :: b6 :: b7 :: r) = (b0.toNat / 8 % 2 == 1) := rfl
    have hdrop : (b0 :: b1 :: b2 :: b3 :: b4 :: b5 :: b6 :: b7 :: r).drop 8 = r := rfl
    have hid : xId (b0 :: b1 :: b2 :: b3 :: b4 :: b5 :: b6 :: b7 :: r) = (b4.toNat * 256 + b5.toNat) * 256 + b6.toNat := rfl
    have hn : (b0 :: b1 :: b2 :: b3 :: b4 :: b5 :: b6 :: b7 :: r).length = r.length + 8 := by simp
    have i0 := fun W => xtxt_index (b0 :: b1 :: b2 :: b3 :: b4 :: b5 :: b6 :: b7 :: r) 0 b0 rfl 0 rfl W
    have x1 : (txt (b0 :: b1 :: b2 :: b3 :: b4 :: b5 :: b6 :: b7 :: r)).extract 4 7 = txt [b4, b5, b6] := by rw [xtxt_mid]; rfl
    have x2 : (txt (b0 :: b1 :: b2 :: b3 :: b4 :: b5 :: b6 :: b7 :: r)).extract 8 (r.length + 8) = txt r := by
      rw [xtxt_mid, show r.length + 8 - 8 = r.length by omega]
      show txt (r.take r.length) = _
      rw [List.take_length]
    rw [hrl, hbit, hdrop, hid]
    rw [hn] at hsz
    have hrL : r.length ≤ 549755813888 := by omega
    have l0 := b0.toNat_lt
    generalize txt (b0 :: b1 :: b2 :: b3 :: b4 :: b5 :: b6 :: b7 :: r) = T at *
    have h1' : ¬ T.size < 8 := by omega
    clear hrl hbit hdrop hid hn h1 hL
    by_cases h2 : b0.toNat / 8 % 2 = 1
    · have hC : (if (b0.toNat / 8 % 2 == 1) = false then 3 else frameWrong r.length) = frameWrong r.length := if_neg (by simp [h2])
      have hz : ((b0.toNat : Int) / 8 % 2 == 0) = false := by
        have : (b0.toNat : Int) / 8 % 2 = 1 := by omega
        rw [this]; rfl
      have HZ : Hid (∀ W, _) := fun W => rsize_any r.length W
      have HN : Hid (∀ W, _) := fun W => rnumber_any b4 b5 b6 W
      have hs8 : ((r.length : Int) + 8 - 8) = (r.length : Int) := by omega
      rw [hC]
      clear hC h2 l0
      generalize (b4.toNat * 256 + b5.toNat) * 256 + b6.toNat = q at *
      by_cases h3 : frameWrong r.length = 0
      · rw [h3] at HZ ⊢
        rw [if_pos rfl, if_pos rfl]
        clear h3
        generalize txt [b4, b5, b6] = T3 at *
        generalize txt r = TR at *
        go_enter Tryd.func11, Tryd.ntmps11
        go_wp2_with fail
        refine (HZ.out _).mono ?_
        rintro e w' ⟨rfl, rfl⟩
        go_wp2_with fail
        go_quiet ((go_at_call 38; exact Calls.quiet_of_same ((HN.out _).mono fun _ _ ⟨p, q⟩ => ⟨p, q.symm⟩)))
        go_wp2_with fail
        go_ret3
        exact ⟨rfl, below_drawn (Below.refl _ _)⟩
      · rw [if_neg h3, if_neg h3]
        have h3' : ¬ ((frameWrong r.length : Nat) : Int) = 0 := by omega
        generalize ((frameWrong r.length : Nat) : Int) = f at *
        clear HN x1 x2 h3
        go_enter Tryd.func11, Tryd.ntmps11
        go_wp2_with fail
        refine (HZ.out _).mono ?_
        rintro e w' ⟨rfl, rfl⟩
        go_wp2_with fail
        go_ret3
        exact ⟨rfl, Below.refl _ _⟩
    · have hC : (if (b0.toNat / 8 % 2 == 1) = false then 3 else frameWrong r.length) = 3 := if_pos (by simp [h2])
      have hz : ((b0.toNat : Int) / 8 % 2 == 0) = true := by
        have : (b0.toNat : Int) / 8 % 2 = 0 := by omega
        rw [this]; rfl
      rw [hC, if_neg (by decide), if_neg (by decide)]
      clear x1 x2 hC h2 l0
      go_enter Tryd.func11, Tryd.ntmps11
      go_wp2_with fail
      go_ret3
      exact ⟨rfl, Below.refl _ _⟩
/-- said, of what went well. -/
theorem said_ok (b : Bool) (w : World) : Calls Tryd.prog 12 #[.nilIface, .int .i64 0, .bool b] w fun e w' => e = .returned (.bool true) ∧ Below w.heap.size w w' := by
  go_enter Tryd.func12, Tryd.ntmps12
  go_wp2_with fail
  go_ret
  exact ⟨rfl, Below.refl _ _⟩
theorem said_err (n : Nat) (hn : n < 14) (h0 : n ≠ 0) (l : List ByteArray) (b : Bool) (hl : l = if b then [vxWord, octetsWord] else [vxWord]) (v : Value) (w : World) (hg : Hdl w) (hc : Chain w n l v) :
    Calls Tryd.prog 12 #[v, .int .i64 (n : Int), .bool b] w fun e w' => e = .returned (.bool true) ∧ Below w.heap.size w w' := by
  obtain ⟨s, r, rfl⟩ : ∃ s r, l = s :: r := by cases b <;> exact ⟨_, _, hl⟩
  obtain ⟨g, x, rfl, k0, k1, k2⟩ := hc
  have hz : (text n (s :: r)).size ≤ 1000000000 := by
    have hd := dec_size n
    have h1 : (text n [vxWord, octetsWord]).size = 23 - 2 + (dec n).size - 0 := by
      show (vxWord ++ colon ++ (octetsWord ++ colon ++ (errorWord ++ dec n))).size = _
      simp only [ByteArray.size_append]
      show 5 + 2 + (6 + 2 + (6 + _)) = _
      omega
    have h2 : (text n [vxWord]).size = 13 + (dec n).size := by
      show (vxWord ++ colon ++ (errorWord ++ dec n)).size = _
      simp only [ByteArray.size_append]
      show 5 + 2 + (6 + _) = _
      omega
    cases b
    · rw [hl]; simp only [Bool.false_eq_true, if_false]; omega
    · rw [hl]; simp only [if_true]; omega
  have hc' : Chain w n (s :: r) (.iface 92 (.pointer (some ⟨g, 0, none⟩))) := ⟨g, x, rfl, k0, k1, k2⟩
  have HT : Hid (∀ W, Below w.heap.size w W → Calls Tryd.prog 97 #[.pointer (some ⟨g, 0, none⟩)] W fun e w' => e = .returned (.string (text n (s :: r))) ∧ ∃ m, w' = W.drewN m) := fun W hb =>
    wrong_text n hn r g s x W hz ((hb.cell (World.block_lt_of_cell? w _ k0)).trans k0) ((hb.cell (World.block_lt_of_cell? w _ k1)).trans k1) (k2.below hb)
  have HI := Lib.hid (is_any n n _ _ w hc')
  have HC := Lib.hid (code_any n _ _ w hg hc')
  have f1 := methodErrorW
  have h0' : ¬ (n : Int) = 0 := by omega
  have hs : (text n []).size = 6 + (dec n).size := by show (errorWord ++ dec n).size = _; rw [ByteArray.size_append]; rfl
  have hd := dec_size n
  have HE : Hid (∀ W, _) := fun W => errno_text n W hn
  have ht : text n (s :: r) = (if b then (⟨#[118, 120, 108, 97, 110, 58, 32, 111, 99, 116, 101, 116, 115, 58, 32]⟩ : ByteArray) else ⟨#[118, 120, 108, 97, 110, 58, 32]⟩) ++ text n [] := by
    rw [hl]
    cases b
    · show vxWord ++ colon ++ text n [] = _
      rfl
    · show vxWord ++ colon ++ (octetsWord ++ colon ++ text n []) = _
      rw [← ByteArray.append_assoc]
      rfl
  rw [ht] at HT
  clear ht hz k0 k1 k2 hc' hl hg h0 hn
  have hs20 : ¬ 9223372036854775807 < 15 + (text n []).size := by omega
  have hs7 : ¬ 9223372036854775807 < 7 + (text n []).size := by omega
  generalize text n [] = T at *
  have hnn : ((n : Int) == (n : Int)) = true := by simp
  generalize (n : Int) = z at *
  clear hs hd
  cases b
  · simp only [Bool.false_eq_true, if_false] at HT
    go_enter Tryd.func12, Tryd.ntmps12
    go_wp2_with fail
    refine HI.out.mono ?_
    rintro e w' ⟨he, rfl⟩
    rw [hnn] at he
    subst he
    go_wp2_with fail
    refine HC.out.mono ?_
    rintro e w1 ⟨rfl, hb1⟩
    have HB1 := Lib.hid hb1
    clear hb1
    go_wp2_with fail
    refine (HT.out _ HB1.out).mono ?_
    rintro e w2 ⟨rfl, m, rfl⟩
    go_wp2_with fail
    refine (HE.out _).mono ?_
    rintro e w' ⟨rfl, rfl⟩
    go_wp2_with fail
    go_ret
    exact ⟨rfl, below_drawn HB1.out⟩
  · simp only [if_true] at HT
    go_enter Tryd.func12, Tryd.ntmps12
    go_wp2_with fail
    refine HI.out.mono ?_
    rintro e w' ⟨he, rfl⟩
    rw [hnn] at he
    subst he
    go_wp2_with fail
    refine HC.out.mono ?_
    rintro e w1 ⟨rfl, hb1⟩
    have HB1 := Lib.hid hb1
    clear hb1
    go_wp2_with fail
    refine (HT.out _ HB1.out).mono ?_
    rintro e w2 ⟨rfl, m, rfl⟩
    go_wp2_with fail
    refine (HE.out _).mono ?_
    rintro e w' ⟨rfl, rfl⟩
    go_wp2_with fail
    go_ret
    exact ⟨rfl, below_drawn HB1.out⟩
end Go.Proofs.YtnjohgfhagoppaaDoor
