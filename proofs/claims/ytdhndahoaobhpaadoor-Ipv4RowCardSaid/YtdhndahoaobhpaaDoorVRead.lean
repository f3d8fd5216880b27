/-
  What is proved: ipv4's readHeader and check by contract.
  Conditions: the twenty bytes are those of numbers that fit.
-/
import Derived.Test.YtdhndahoaobhpaaDoorVBytes
import Derived.Laws.Rows
namespace Go.Proofs.YtdhndahoaobhpaaDoor
open Go.RowKit

/-- A reader that is younger than 'w', of which all is as it was. -/
structure Rs (w W : World) (q : Nat) (bs : List UInt8) : Prop where
  rdr : Rdr W ⟨q, 0, none⟩ bs
  old : Below w.heap.size w W
  new : w.heap.size ≤ q
  len : bs.length ≤ 1099511627776
section
variable {w W : World} {q : Nat} {r : List UInt8}
theorem Rs.step (h : Rs w W q r) {W' : World} {r' : List UInt8} (h1 : Rdr W' ⟨q, 0, none⟩ r') (h2 : Fr (· = ⟨q, 0, none⟩) W W') (hl : r'.length ≤ 1099511627776) : Rs w W' q r' :=
  ⟨h1, below_to h.old (h2.below (B := w.heap.size) h.old.size (fun x hx => by subst hx; exact h.new)) (Nat.le_refl _), h.new, hl⟩
theorem Rs.u8 (n : Nat) (hn : n < 256) (h : Rs w W q (UInt8.ofNat n :: r)) :
    Calls Tryd.prog 38 #[.pointer (some ⟨q, 0, none⟩)] W fun e w' => e = .returned (.tuple #[.int .u8 n, .nilIface]) ∧ Rs w w' q r := by
  refine (U8_ok _ _ _ _ h.rdr h.len).mono ?_
  rintro e w' ⟨rfl, h1, h2, _⟩
  have e1 : (UInt8.ofNat n).toNat = n := by rw [ofNat_lt]; omega
  rw [e1]
  exact ⟨rfl, h.step h1 h2 (by have := h.len; simp at this; omega)⟩
theorem Rs.u16 (n : Nat) (hn : n < 65536) (h : Rs w W q (be2 n ++ r)) :
    Calls Tryd.prog 39 #[.pointer (some ⟨q, 0, none⟩)] W fun e w' => e = .returned (.tuple #[.int .u16 n, .nilIface]) ∧ Rs w w' q r := by
  refine (U16_ok _ _ _ _ _ h.rdr h.len).mono ?_
  rintro e w' ⟨rfl, h1, h2, _⟩
  have e1 : (((UInt8.ofNat (n / 256)).toNat : Int)) * 256 + (UInt8.ofNat n).toNat = (n : Int) := by rw [ofNat_lt, ofNat_lt]; omega
  rw [e1]
  exact ⟨rfl, h.step h1 h2 (by have := h.len; simp [be2] at this; omega)⟩
theorem Rs.u32 (n : Nat) (hn : n < 4294967296) (h : Rs w W q (be4 n ++ r)) :
    Calls Tryd.prog 40 #[.pointer (some ⟨q, 0, none⟩)] W fun e w' => e = .returned (.tuple #[.int .u32 n, .nilIface]) ∧ Rs w w' q r := by
  refine (U32_ok _ _ _ _ _ _ _ h.rdr h.len).mono ?_
  rintro e w' ⟨rfl, h1, h2, _⟩
  have e1 : ((((UInt8.ofNat (n / 16777216)).toNat : Int) * 256 + (UInt8.ofNat (n / 65536)).toNat) * 256 + (UInt8.ofNat (n / 256)).toNat) * 256 + (UInt8.ofNat n).toNat = (n : Int) := by rw [ofNat_lt, ofNat_lt, ofNat_lt, ofNat_lt]; omega
  rw [e1]
  exact ⟨rfl, h.step h1 h2 (by have := h.len; simp [be4] at this; omega)⟩
end

/-- The packet that a head tells of, without its bytes. -/
def Hd.pk (h : Hd) : Ip := ⟨h.tos, h.id, decide (h.bits / 16384 % 2 = 1), decide (h.bits / 8192 % 2 = 1), ((h.bits % 8192 * 8 : Nat) : Int), h.ttl, h.proto, h.src, h.dst, []⟩
def Hd.row (h : Hd) : Array Value := #[.int .u8 (h.first / 16 : Nat), .int .u8 (h.first % 16 : Nat), .int .i64 h.size, .int .u16 h.bits,
  .int .u8 h.tos, .int .u16 h.id, .bool (decide (h.bits / 16384 % 2 = 1)), .bool (decide (h.bits / 8192 % 2 = 1)), .int .i64 (h.bits % 8192 * 8 : Nat), .int .u8 h.ttl, .int .u8 h.proto, .int .u32 h.src, .int .u32 h.dst, .slice none 0 0]
def hdZero : Array Value := #[.int .u8 0, .int .u8 0, .int .i64 0, .int .u16 0, .int .u8 0, .int .u16 0, .bool false, .bool false, .int .i64 0, .int .u8 0, .int .u8 0, .int .u32 0, .int .u32 0, .slice none 0 0]
theorem hdSize : (Tryd.prog.info? 70).map (·.size) = some 14 := by kernel_rfl
theorem hdRow_one (h : Hd) : h.row.all (·.oneCell') = true := by simp [Hd.row, Value.oneCell']
theorem and_bit (n k : Nat) (hn : n < 65536) (hk : k < 16) : bits .and .u16 (n : Int) ((2 ^ k : Nat) : Int) = ((n / 2 ^ k % 2 * 2 ^ k : Nat) : Int) := by
  have hk2 : 2 ^ k < 65536 := by
    have := Nat.pow_lt_pow_right (a := 2) (by decide) hk
    omega
  rw [u16_and_nat n _ hn hk2]
  congr 1
  apply Nat.eq_of_testBit_eq
  intro i
  rw [Nat.testBit_and, Nat.testBit_two_pow, Nat.testBit_mul_two_pow]
  by_cases h : k = i
  · subst h
    simp [Nat.testBit, Nat.shiftRight_eq_div_pow]
  · simp only [h, decide_false, Bool.and_false]
    by_cases h2 : k ≤ i
    · obtain ⟨j, rfl⟩ : ∃ j, i = k + (j + 1) := ⟨i - k - 1, by omega⟩
      have : k + (j + 1) - k = j + 1 := by omega
      rw [this, Nat.testBit_succ]
      have : n / 2 ^ k % 2 / 2 = 0 := by omega
      rw [this]
      simp
    · simp [h2]
theorem and_flag {x : Int} {n k : Nat} (h : x = ((n % 2 * k : Nat) : Int)) (hk : 0 < k) : (x != 0) = decide (n % 2 = 1) := by
  rcases Nat.mod_two_eq_zero_or_one n with h1 | h1
  · rw [h, h1]
    simp
  · rw [h, h1]
    have : ((1 * k : Nat) : Int) ≠ 0 := by omega
    simp
    omega
theorem and_low13 (n : Nat) (hn : n < 65536) : bits .and .u16 (n : Int) 8191 = ((n % 8192 : Nat) : Int) := by
  have h := u16_and_nat n 8191 hn (by decide)
  rw [show (8191 : Nat) = 2 ^ 13 - 1 from rfl, Nat.and_two_pow_sub_one_eq_mod] at h
  exact h
theorem and_low4 (n : Nat) (hn : n < 256) : bits .and .u8 (n : Int) 15 = ((n % 16 : Nat) : Int) := by
  have h := u8_and_nat n 15 hn (by decide)
  rw [show (15 : Nat) = 2 ^ 4 - 1 from rfl, Nat.and_two_pow_sub_one_eq_mod] at h
  exact h
set_option maxRecDepth 100000 in
set_option maxHeartbeats 4000000 in
theorem readHeader_any (h : Hd) (hh : h.In) (v : Value) (w : World) (hr : Rd w v h.bs) :
    Calls Tryd.prog 29 #[v] w fun e w' => e = .returned (.agg h.row) ∧ Below w.heap.size w w' := by
  have HX : Hid ((w.alloc (.cells hdZero 70)).heap[w.heap.size]? = some (.cells hdZero 70)) := heap_alloc_new w _
  have HB := Lib.hid (below_al (Below.refl w.heap.size w) (.cells hdZero 70))
  have HR := Lib.hid (Read_facts v h.bs (w.alloc (.cells hdZero 70)) (hr.below (below_al (Below.refl _ _) _)) (by rw [Hd.bs_len]; decide))
  have HH := Lib.hid hh
  have a1 := and_low4 h.first hh.first
  have a2 := and_bit h.bits 14 hh.bits (by decide)
  have a3 := and_bit h.bits 13 hh.bits (by decide)
  have a4 := and_low13 h.bits hh.bits
  have b1 := hh.first
  have b2 := hh.bits
  have b3 := hh.size
  clear hr hh
  generalize hW : w.alloc (.cells hdZero 70) = W at HX HB HR
  unfold hdZero at hW
  go_enter Tryd.func29, Tryd.ntmps29
  go_upto_region 1 with fail
  clear hW
  go_wp2_with fail
  refine HR.out.mono ?_
  rintro e w1 ⟨q, rfl, h1, h2, h3⟩
  have R0 : Hid (Rs W w1 q (UInt8.ofNat h.first :: UInt8.ofNat h.tos :: (be2 h.size ++ (be2 h.id ++ (be2 h.bits ++ (UInt8.ofNat h.ttl :: UInt8.ofNat h.proto :: (be2 h.c ++ (be4 h.src ++ (be4 h.dst ++ [])))))))) ) := ⟨h2, h3, h1, by simp [be2, be4]⟩
  clear h1 h2 h3 HR
  go_wp2_with fail
  refine (R0.out.u8 _ HH.out.first).mono ?_
  rintro e w2 ⟨rfl, hq⟩
  have R1 := Lib.hid hq
  clear hq R0
  go_wp2_with fail
  refine (R1.out.u8 _ HH.out.tos).mono ?_
  rintro e w3 ⟨rfl, hq⟩
  have R2 := Lib.hid hq
  clear hq R1
  go_wp2_with fail
  refine (R2.out.u16 _ HH.out.size).mono ?_
  rintro e w4 ⟨rfl, hq⟩
  have R3 := Lib.hid hq
  clear hq R2
  go_wp2_with fail
  refine (R3.out.u16 _ HH.out.id).mono ?_
  rintro e w5 ⟨rfl, hq⟩
  have R4 := Lib.hid hq
  clear hq R3
  go_wp2_with fail
  refine (R4.out.u16 _ HH.out.bits).mono ?_
  rintro e w6 ⟨rfl, hq⟩
  have R5 := Lib.hid hq
  clear hq R4
  go_wp2_with fail
  refine (R5.out.u8 _ HH.out.ttl).mono ?_
  rintro e w7 ⟨rfl, hq⟩
  have R6 := Lib.hid hq
  clear hq R5
  go_wp2_with fail
  refine (R6.out.u8 _ HH.out.proto).mono ?_
  rintro e w8 ⟨rfl, hq⟩
  have R7 := Lib.hid hq
  clear hq R6
  go_wp2_with fail
  refine (R7.out.u16 _ HH.out.c).mono ?_
  rintro e w9 ⟨rfl, hq⟩
  have R8 := Lib.hid hq
  clear hq R7
  go_wp2_with fail
  refine (R8.out.u32 _ HH.out.src).mono ?_
  rintro e w10 ⟨rfl, hq⟩
  have R9 := Lib.hid hq
  clear hq R8
  go_wp2_with fail
  refine (R9.out.u32 _ HH.out.dst).mono ?_
  rintro e w11 ⟨rfl, hq⟩
  have HZ : Hid (w11.heap[w.heap.size]? = some (.cells hdZero 70)) := (hq.old.block w.heap.size (Array.getElem?_eq_some_iff.1 HX.out).1).trans HX.out
  have HQ := Lib.hid (below_to HB.out hq.old HB.out.size)
  clear hq R9 HX HB
  go_wp2_with (refine wpList_store_row rfl 70 (.tmp 2) (.tmp 98) rfl w.heap.size h.row rfl ?e1 70 _ HZ.out hdSize rfl (hdRow_one h) ?_)
  case e1 =>
    clear HZ HQ HH
    show Value.agg #[_, _, _, _, _, _, _, _, _, _, _, _, _, _] = Value.agg h.row
    have f2 : (bits .and .u16 (h.bits : Int) 16384 != 0) = decide (h.bits / 16384 % 2 = 1) := and_flag a2 (by omega)
    have f3 : (bits .and .u16 (h.bits : Int) 8192 != 0) = decide (h.bits / 8192 % 2 = 1) := and_flag a3 (by omega)
    rw [f2, f3]
    simp [Hd.row]
  (try simp only [Exit.inBlock, Exit.then])
  refine bodyPost_ret (results_cell_row rfl _ _ w.heap.size _ h.row (0, 0) _ rfl (setRow_heap _ _ _ _ _ _ HZ.out) Tryd.underlying70 rfl hdSize) rfl ?_
  exact ⟨rfl, ((Fr.of_below (p := fun _ => False) HQ.out).row (Nat.le_refl _) _).below (Nat.le_refl _) (fun _ h => h.elim)⟩

/-- What is wrong ahead of the sum; 'n' bytes in all. -/
def Hd.wrong (h : Hd) (n : Nat) : Nat := if h.first / 16 ≠ 4 then 12 else if h.first % 16 < 5 then 3 else if 5 < h.first % 16 then 11 else if h.size < 20 then 3 else if n < h.size then 2 else 0
/-- What check tells. -/
def CheckTold (k : Nat) (w : World) (e : Ending) (w' : World) : Prop :=
  Below w.heap.size w w' ∧ e = .returned (if k = 0 then .nilIface else .iface 37 (.int .i64 k))
set_option maxHeartbeats 4000000 in
theorem check_any (h : Hd) (hh : h.In) (n : Nat) (_ : n ≤ 1099511627776) (w : World) :
    Calls Tryd.prog 30 #[.agg h.row, .int .i64 n] w (CheckTold (h.wrong n) w) := by
  have HB := Lib.hid (below_al (Below.refl w.heap.size w) (.cells h.row 70))
  have b1 := hh.first
  have b3 := hh.size
  unfold Hd.row at HB
  unfold Hd.row
  clear hh
  unfold Hd.wrong
  generalize h.first / 16 = x at *
  generalize h.first % 16 = y at *
  generalize h.size = s at *
  by_cases h1 : x ≠ 4
  · rw [if_pos h1]
    have h2 : ¬ (x : Int) = 4 := by omega
    have h3 : ((x : Int) == 4) = false := by simpa using h2
    clear h1
    go_enter Tryd.func30, Tryd.ntmps30
    go_wp2_with fail
    go_ret
    exact ⟨HB.out, rfl⟩
  · rw [if_neg h1]
    have h2 : x = 4 := by omega
    subst h2
    clear h1
    by_cases h1 : y < 5
    · rw [if_pos h1]
      have h2 : (y : Int) < 5 := by omega
      clear h1
      go_enter Tryd.func30, Tryd.ntmps30
      go_wp2_with fail
      go_ret
      exact ⟨HB.out, rfl⟩
    · rw [if_neg h1]
      have k1 : ¬ (y : Int) < 5 := by omega
      clear h1
      by_cases h1 : 5 < y
      · rw [if_pos h1]
        have h2 : (5 : Int) < y := by omega
        clear h1
        go_enter Tryd.func30, Tryd.ntmps30
        go_wp2_with fail
        go_ret
        exact ⟨HB.out, rfl⟩
      · rw [if_neg h1]
        have k2 : ¬ (5 : Int) < y := by omega
        clear h1
        by_cases h1 : s < 20
        · rw [if_pos h1]
          have h2 : (s : Int) < 20 := by omega
          clear h1
          go_enter Tryd.func30, Tryd.ntmps30
          go_wp2_with fail
          go_ret
          exact ⟨HB.out, rfl⟩
        · rw [if_neg h1]
          have k3 : ¬ (s : Int) < 20 := by omega
          clear h1
          by_cases h1 : n < s
          · rw [if_pos h1]
            have h2 : (n : Int) < s := by omega
            clear h1
            go_enter Tryd.func30, Tryd.ntmps30
            go_wp2_with fail
            go_ret
            exact ⟨HB.out, rfl⟩
          · rw [if_neg h1]
            have h2 : ¬ (n : Int) < s := by omega
            clear h1
            go_enter Tryd.func30, Tryd.ntmps30
            go_wp2_with fail
            go_ret
            exact ⟨HB.out, rfl⟩
end Go.Proofs.YtdhndahoaobhpaaDoor
