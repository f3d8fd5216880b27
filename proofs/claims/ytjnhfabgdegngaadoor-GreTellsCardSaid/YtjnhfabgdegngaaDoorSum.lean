/-
  What is proved: package sum by contract: weigh, turn, Sum, Valid, Update, Pseudo: what each returns; no memory is written (Pseudo makes one block).
  Conditions: the parts hold fewer than 2^40 bytes together.
-/
import Derived.Test.YtjnhfabgdegngaaDoorSMem
import Derived.Laws.Bits64b
namespace Go.Proofs.YtjnhfabgdegngaaDoor
open Go.RowKit

/-- What is above the lowest 16 bits added to these, as long as there is any. -/
def fold (n : Nat) : Nat := if n = 0 then 0 else (n - 1) % 65535 + 1
theorem fold_le (n : Nat) : fold n ≤ 65535 := by unfold fold; split <;> omega
theorem fold_small {n : Nat} (h : n ≤ 65535) : fold n = n := by unfold fold; split <;> omega
theorem fold_step (n : Nat) : fold (n % 65536 + n / 65536) = fold n := by unfold fold; split <;> split <;> omega
theorem fold_eq {a b : Nat} (h0 : a = 0 ↔ b = 0) (h : a % 65535 = b % 65535) : fold a = fold b := by unfold fold; split <;> split <;> omega
theorem fold_mod (a : Nat) : fold a % 65535 = a % 65535 := by unfold fold; split <;> omega
theorem fold_zero (a : Nat) : fold a = 0 ↔ a = 0 := by unfold fold; split <;> omega

/-- The sum of the pairs, byte by byte: 'true': the next byte is the higher one. -/
def wsum : Bool → List UInt8 → Nat
  | _, [] => 0
  | true, b :: r => b.toNat * 256 + wsum false r
  | false, b :: r => b.toNat + wsum true r
/-- Which byte is next behind 'n' bytes. -/
def par (h : Bool) (n : Nat) : Bool := if n % 2 = 0 then h else !h
theorem wsum_append (h : Bool) (a b : List UInt8) : wsum h (a ++ b) = wsum h a + wsum (par h a.length) b := by
  induction a generalizing h with
  | nil => simp [wsum, par]
  | cons x a ih =>
    have hp : par (!h) a.length = par h (a.length + 1) := by
      unfold par
      by_cases h1 : a.length % 2 = 0
      · have h2 : (a.length + 1) % 2 ≠ 0 := by omega
        simp [h1, h2]
      · have h2 : (a.length + 1) % 2 = 0 := by omega
        simp [h1, h2]
    cases h
    · simp only [List.cons_append, wsum, ih, List.length_cons]
      rw [show (true : Bool) = !false from rfl, hp]; omega
    · simp only [List.cons_append, wsum, ih, List.length_cons]
      rw [show (false : Bool) = !true from rfl, hp]; omega
theorem par_add (h : Bool) (a b : Nat) : par h (a + b) = par (par h a) b := by
  unfold par
  by_cases h1 : a % 2 = 0 <;> by_cases h2 : b % 2 = 0
  · have h3 : (a + b) % 2 = 0 := by omega
    simp [h1, h2, h3]
  · have h3 : (a + b) % 2 ≠ 0 := by omega
    simp [h1, h2, h3]
  · have h3 : (a + b) % 2 ≠ 0 := by omega
    simp [h1, h2, h3]
  · have h3 : (a + b) % 2 = 0 := by omega
    simp [h1, h2, h3]
theorem wsum_le (h : Bool) (a : List UInt8) : wsum h a ≤ 65280 * a.length := by
  induction a generalizing h with
  | nil => simp [wsum]
  | cons x a ih =>
    have := x.toNat_lt
    cases h
    · have := ih true; simp only [wsum, List.length_cons]; omega
    · have := ih false; simp only [wsum, List.length_cons]; omega
/-- The sum that the document asks for. -/
def ck (bs : List UInt8) : Nat := 65535 - fold (wsum true bs)
theorem ck_le (bs : List UInt8) : ck bs ≤ 65535 := by unfold ck; omega

theorem and_low (m : Nat) (hm : m < 18446744073709551616) : bits .and .u64 (m : Int) 65535 = ((m % 65536 : Nat) : Int) := by
  have h := bits_and_u64_nat m 65535 hm (by omega)
  rw [show (65535 : Nat) = 2 ^ 16 - 1 from rfl, Nat.and_two_pow_sub_one_eq_mod] at h
  exact h
theorem and_low_i64 (x : Int) : bits .and .i64 x 65535 = x % 65536 := by
  have h2 : (BitVec.ofInt 64 (65535 : Int)).toNat = 2 ^ 16 - 1 := rfl
  show IntKind.i64.wrap ((BitVec.ofInt 64 x &&& BitVec.ofInt 64 (65535 : Int)).toNat : Int) = _
  rw [BitVec.toNat_and, h2, Nat.and_two_pow_sub_one_eq_mod, BitVec.toNat_ofInt, IntKind.wrap_i64]
  omega
theorem xor_all (m : Nat) (hm : m ≤ 65535) : bits .xor .u16 IntKind.u16.max (m : Int) = ((65535 - m : Nat) : Int) := by
  have h1 : (BitVec.ofInt 16 (m : Int)).toNat = m := by
    rw [BitVec.ofInt_natCast, BitVec.toNat_ofNat]; exact Nat.mod_eq_of_lt (by omega)
  have h2 : BitVec.ofInt 16 (IntKind.u16.max) = BitVec.allOnes 16 := rfl
  show IntKind.u16.wrap ((BitVec.ofInt 16 IntKind.u16.max ^^^ BitVec.ofInt 16 (m : Int)).toNat : Int) = _
  rw [h2, BitVec.allOnes_xor, BitVec.toNat_not, h1, IntKind.wrap_u16]
  omega

theorem weigh_high (b : UInt8) (w : World) : Calls Tryd.prog 36 #[.int .u8 (b.toNat : Int), .bool true] w fun e w' => e = .returned (.int .u64 ((b.toNat * 256 : Nat) : Int)) ∧ w = w' := by
  have hb := b.toNat_lt
  go_enter Tryd.func36, Tryd.ntmps36
  go_wp2_with fail
  go_ret
  exact ⟨by simp, rfl⟩
theorem weigh_low (b : UInt8) (w : World) : Calls Tryd.prog 36 #[.int .u8 (b.toNat : Int), .bool false] w fun e w' => e = .returned (.int .u64 (b.toNat : Int)) ∧ w = w' := by
  have hb := b.toNat_lt
  go_enter Tryd.func36, Tryd.ntmps36
  go_wp2_with fail
  go_ret
  exact ⟨rfl, rfl⟩
theorem turn_any (n : Nat) (hn : n < 9223372036854775808) (w : World) : Calls Tryd.prog 37 #[.int .u64 (n : Int)] w fun e w' => e = .returned (.int .u16 ((65535 - fold n : Nat) : Int)) ∧ w = w' := by
  go_enter Tryd.func37, Tryd.ntmps37
  go_wp2_with fail
  go_loopw [0] (fun v wr => ∃ m : Nat, v = .int .u64 (m : Int) ∧ m < 9223372036854775808 ∧ fold m = fold n ∧ w = wr) (fun v _ => (intOf v).toNat)
  case atStart => exact ⟨n, rfl, hn, rfl, rfl⟩
  case round =>
    obtain ⟨m, rfl, hm, hf, rfl⟩ := hrel
    have HK : Hid (IntKind.u64.wrap (bits BinOp.and IntKind.u64 (m : Int) 65535 + (m : Int) / 65536) = ((m % 65536 + m / 65536 : Nat) : Int)) := by
      show _ = _
      rw [and_low m (by omega), IntKind.wrap_u64]
      omega
    by_cases h : (65535 : Int) < (m : Int)
    · go_wp2_with fail
      go_roundw
      case rel => exact ⟨m % 65536 + m / 65536, by rw [HK.out], by omega, by rw [fold_step]; exact hf, trivial⟩
      case measure => rw [HK.out]; simp only [intOf, Int.toNat_natCast]; omega
    · go_wp2_with fail
      go_ret
      have hx : (65535 - fold n : Nat) = 65535 - m := by rw [← hf, fold_small (by omega)]
      exact ⟨by rw [hx, ← xor_all m (by omega)]; rfl, rfl⟩
/-- The slice value 'v' holds slices that hold the bytes 'bss'. -/
def RdL (w : World) (v : Value) (bss : List (List UInt8)) : Prop :=
  ∃ A c, v = .slice A bss.length c ∧ bss.length ≤ c ∧ (0 < bss.length → ∃ g o, A = some ⟨g, o, none⟩ ∧ ∀ i bs, bss[i]? = some bs → ∃ u, w.cell? ⟨g, o + i, none⟩ = some u ∧ Rd w u bs)

set_option maxHeartbeats 1000000 in
theorem Sum_any (v : Value) (bss : List (List UInt8)) (w : World) (hv : RdL w v bss) (hn : bss.flatten.length ≤ 1099511627776) (hm : bss.length ≤ 1099511627776) :
    Calls Tryd.prog 17 #[v] w fun e w' => e = .returned (.int .u16 ((ck bss.flatten : Nat) : Int)) ∧ w = w' := by
  obtain ⟨A, c, rfl, hc, hcell⟩ := hv
  obtain ⟨L, hL⟩ : ∃ L, L = bss.length := ⟨_, rfl⟩
  have HC := Lib.hid hcell
  have HL := Lib.hid hL
  have HN := Lib.hid hn
  rw [← hL] at hc hm ⊢
  clear hcell hL hn
  go_enter Tryd.func17, Tryd.ntmps17
  go_wp2_with fail
  go_loopw [3, 4, 11] (fun t h i wr => ∃ k : Nat, k ≤ L ∧ i = .int .i64 (k : Int) ∧ t = .int .u64 ((wsum true (bss.take k).flatten : Nat) : Int) ∧ h = .bool (par true (bss.take k).flatten.length) ∧ w = wr) (fun _ _ i _ => L - (intOf i).toNat)
  case atStart => exact ⟨0, by omega, rfl, rfl, rfl, rfl⟩
  case round =>
    obtain ⟨k, hk, rfl, rfl, rfl, rfl⟩ := hrel
    by_cases hlt : k < L
    · obtain ⟨g, o, rfl, hcs⟩ := HC.out (by have := HL.out; omega)
      obtain ⟨bs, hbs⟩ : ∃ bs, bss[k]? = some bs := ⟨bss[k]'(by have := HL.out; omega), List.getElem?_eq_getElem _⟩
      obtain ⟨u, hu, hrd⟩ := hcs k bs hbs
      obtain ⟨A2, c2, rfl, hc2, hr2⟩ := hrd
      have hw0 : Hid (wsum true (bss.take (k + 1)).flatten = wsum true (bss.take k).flatten + wsum (par true (bss.take k).flatten.length) bs ∧ par true (bss.take (k + 1)).flatten.length = par (par true (bss.take k).flatten.length) bs.length ∧ wsum true (bss.take (k + 1)).flatten ≤ 65280 * 1099511627776) := by
        have e : (bss.take (k + 1)).flatten = (bss.take k).flatten ++ bs := by rw [List.take_add_one, hbs]; simp
        refine ⟨by rw [e, wsum_append], by rw [e, List.length_append, par_add], Nat.le_trans (wsum_le _ _) (Nat.mul_le_mul_left _ (Nat.le_trans ?_ HN.out))⟩
        have : bss.flatten = (bss.take (k + 1)).flatten ++ (bss.drop (k + 1)).flatten := by rw [← List.flatten_append, List.take_append_drop]
        rw [this, List.length_append]; omega
      generalize wsum true (bss.take k).flatten = T at *
      generalize par true (bss.take k).flatten.length = H at *
      obtain ⟨M, hM⟩ : ∃ M, M = bs.length := ⟨_, rfl⟩
      rw [← hM] at hc2 hr2 hu
      have HR := Lib.hid hr2
      have HM := Lib.hid hM
      have hMl : M ≤ 1099511627776 := by
        have h1 : bs.length ≤ bss.flatten.length := (List.sublist_flatten_of_mem (List.mem_of_getElem? hbs)).length_le
        have := HN.out
        omega
      have hT : T + wsum H bs ≤ 65280 * 1099511627776 := by have := hw0.out; omega
      clear hr2 hM hcs
      go_wp2_with fail
      go_loopw [3, 4, 17] (fun t h i wr => ∃ j : Nat, j ≤ M ∧ i = .int .i64 (j : Int) ∧ t = .int .u64 ((T + wsum H (bs.take j) : Nat) : Int) ∧ h = .bool (par H j) ∧ w = wr) (fun _ _ i _ => M - (intOf i).toNat)
      case atStart => exact ⟨0, by omega, rfl, by simp [wsum], rfl, rfl⟩
      case round =>
        obtain ⟨j, hj, rfl, rfl, rfl, rfl⟩ := hrel
        by_cases hjl : j < M
        · obtain ⟨g2, o2, rfl, hb2⟩ := HR.out (by omega)
          obtain ⟨x, hx⟩ : ∃ x, bs[j]? = some x := ⟨bs[j]'(by have := HM.out; omega), List.getElem?_eq_getElem _⟩
          have hcx : w.cell? ⟨g2, o2 + j, none⟩ = some (.int .u8 (x.toNat : Int)) := hb2 j x hx
          have hxl := x.toNat_lt
          have hs0 : Hid (wsum H (bs.take (j + 1)) = wsum H (bs.take j) + (if par H j then x.toNat * 256 else x.toNat) ∧ par H (j + 1) = !par H j ∧ wsum H (bs.take (j + 1)) ≤ wsum H bs) := by
            refine ⟨?_, ?_, ?_⟩
            · rw [List.take_add_one, hx, Option.toList_some, wsum_append, List.length_take, Nat.min_eq_left (by have := HM.out; omega)]
              cases par H j <;> simp [wsum]
            · rw [par_add]; simp [par]
            · conv => rhs; rw [← List.take_append_drop (j + 1) bs, wsum_append]
              omega
          generalize wsum H (bs.take j) = S at *
          generalize hP : par H j = Pj at *
          clear hb2
          cases Pj
          · have hS : T + (S + x.toNat) ≤ 65280 * 1099511627776 := by have := hs0.out; simp at this; omega
            go_wp2_with fail
            refine (weigh_low x w).mono ?_
            rintro e w' ⟨rfl, rfl⟩
            go_wp2_with fail
            go_roundw
            case rel => exact ⟨j + 1, by omega, by go_num, by rw [hs0.out.1]; simp; omega, by rw [hs0.out.2.1]; rfl, trivial⟩
            case measure => simp [intOf]; omega
          · have hS : T + (S + x.toNat * 256) ≤ 65280 * 1099511627776 := by have := hs0.out; simp at this; omega
            go_wp2_with fail
            refine (weigh_high x w).mono ?_
            rintro e w' ⟨rfl, rfl⟩
            go_wp2_with fail
            go_roundw
            case rel => exact ⟨j + 1, by omega, by go_num, by rw [hs0.out.1]; simp; omega, by rw [hs0.out.2.1]; rfl, trivial⟩
            case measure => simp [intOf]; omega
        · have hjM : j = M := by omega
          have hje : bs.take j = bs := by rw [hjM, HM.out, List.take_length]
          go_wp2_with fail
          go_roundw
          case rel => exact ⟨k + 1, by omega, by go_num, by rw [hw0.out.1, hje], by rw [hw0.out.2.1, hjM, HM.out], trivial⟩
          case measure => simp [intOf]; omega
    · have hkL : k = L := by omega
      have hke : bss.take k = bss := by rw [hkL, HL.out, List.take_length]
      rw [hke]
      have hb : wsum true bss.flatten < 9223372036854775808 := by
        have := wsum_le true bss.flatten
        have := HN.out
        omega
      go_wp2_with fail
      refine (turn_any _ hb w).mono ?_
      rintro e w' ⟨rfl, rfl⟩
      go_wp2_with fail
      go_ret
      exact ⟨rfl, rfl⟩
theorem beq_dec (n : Nat) : (((n : Nat) : Int) == 0) = decide (n = 0) := by by_cases h : n = 0 <;> simp [h]
theorem Valid_any (v : Value) (bss : List (List UInt8)) (w : World) (hv : RdL w v bss) (hn : bss.flatten.length ≤ 1099511627776) (hm : bss.length ≤ 1099511627776) :
    Calls Tryd.prog 25 #[v] w fun e w' => e = .returned (.bool (decide (ck bss.flatten = 0))) ∧ w = w' := by
  have HS := Lib.hid (Sum_any v bss w hv hn hm)
  clear hv hn hm
  go_enter Tryd.func25, Tryd.ntmps25
  go_wp2_with fail
  refine HS.out.mono ?_
  rintro e w' ⟨rfl, rfl⟩
  go_wp2_with fail
  go_ret
  exact ⟨by rw [← beq_dec]; rfl, rfl⟩
/-- The twelve bytes of Pseudo. -/
def psd (s d p : Nat) (n : Int) : List UInt8 := be4 s ++ be4 d ++ [0, UInt8.ofNat p, b8i (n / 256), b8i n]
theorem psd_len (s d p : Nat) (n : Int) : (psd s d p n).length = 12 := rfl
end Go.Proofs.YtjnhfabgdegngaaDoor
