/-
  What is proved: gre's readHead by contract, with all of its outcomes.
  Conditions: the bytes are fewer than 2^40.
-/
import Derived.Test.YtjnhfabgdegngaaDoorGrRead
namespace Go.Proofs.YtjnhfabgdegngaaDoor
open Go.RowKit

theorem grand_pow (n k : Nat) : n &&& 2 ^ k = if n / 2 ^ k % 2 = 1 then 2 ^ k else 0 := by
  apply Nat.eq_of_testBit_eq
  intro i
  rw [Nat.testBit_and, Nat.testBit_two_pow]
  by_cases hi : k = i
  · subst hi
    rw [decide_eq_true rfl, Bool.and_true, Nat.testBit_eq_decide_div_mod_eq]
    split
    · rename_i h; rw [decide_eq_true h, Nat.testBit_two_pow_self]
    · rename_i h; rw [decide_eq_false h, Nat.zero_testBit]
  · rw [decide_eq_false hi, Bool.and_false]
    split
    · rw [Nat.testBit_two_pow, decide_eq_false hi]
    · rw [Nat.zero_testBit]
/-- One bit of a number, as the program asks for it. -/
theorem grbit (n k m : Nat) (hm : m = 2 ^ k) (hn : n < 4294967296) (hm2 : m < 4294967296) : (bits .and .u32 (n : Int) (m : Int) != 0) = (n / m % 2 == 1) := by
  subst hm
  rw [u32_and_nat n _ hn hm2, grand_pow]
  by_cases h : n / 2 ^ k % 2 = 1
  · rw [if_pos h, h]
    have : 2 ^ k ≠ 0 := by have := Nat.two_pow_pos k; omega
    rw [bne_iff_ne.2 (by omega)]
    rfl
  · rw [if_neg h, beq_eq_false_iff_ne.2 h]
    rfl
/-- All other bits are 0. -/
theorem grother (n : Nat) (hn : n < 65536) : (bits .andNot .u32 (n : Int) 45056 != 0) = !(n % 4096 == 0 && n / 16384 % 2 == 0) := by
  have h := u32_andNot_nat n 45056 (by omega) (by omega)
  have e1 : n &&& (4294967295 - 45056) = n &&& 20479 := by
    have h1 : n = n &&& 65535 := by
      have := Nat.and_two_pow_sub_one_eq_mod n 16
      rw [show (2 : Nat) ^ 16 - 1 = 65535 by decide, show (2 : Nat) ^ 16 = 65536 by decide] at this
      omega
    conv => lhs; rw [h1]
    rw [Nat.and_assoc, show 65535 &&& (4294967295 - 45056) = 20479 by decide]
  have e2 : n &&& 20479 = (if n / 16384 % 2 = 1 then 16384 else 0) ||| n % 4096 := by
    rw [show (20479 : Nat) = 2 ^ 14 ||| (2 ^ 12 - 1) by decide, Nat.and_or_distrib_left, Nat.and_two_pow_sub_one_eq_mod, grand_pow]
  rw [show (45056 : Int) = ((45056 : Nat) : Int) from rfl, h, e1, e2]
  by_cases h1 : n % 4096 = 0
  · by_cases h2 : n / 16384 % 2 = 1
    · rw [if_pos h2, h1, h2]; rfl
    · rw [if_neg h2, h1, show n / 16384 % 2 = 0 by omega]; rfl
  · rw [beq_eq_false_iff_ne.2 h1, Bool.false_and, Bool.not_false, bne_iff_ne]
    intro h3
    rw [show ((0 : Int)) = ((0 : Nat) : Int) from rfl, Int.natCast_inj, Nat.or_eq_zero_iff] at h3
    exact h1 h3.2
theorem gr_alloc0 {p : Addr} (w : World) (o : Obj) : Fr (· = p) w (w.alloc o) := Fr.of_below ((Below.refl _ _).alloc (Nat.le_refl _) o)
theorem grhd_short (p : Addr) (bs : List UInt8) (w : World) (h : Rdr w p bs) (hL : bs.length < 4) :
    Calls Tryd.prog 24 #[.pointer (some p)] w (GRNo 2 [octetsWord] p w) := by
  have HT : Hid (∀ o, _) := fun o => U32_short p bs (w.alloc o) (h.below ((Below.refl _ _).alloc (Nat.le_refl _) o)) hL
  have HF : Hid (∀ o, Fr (· = p) w (w.alloc o)) := fun o => gr_alloc0 w o
  clear h
  unfold GRNo
  go_enter Tryd.func24, Tryd.ntmps24
  go_wp2_with fail
  refine (HT.out _).mono ?_
  rintro e w' ⟨rfl, hw⟩
  obtain ⟨hc, hb⟩ := wrong_facts 2 octetsWord hw
  rw [World.size_alloc] at hc
  have HC := Lib.hid hc
  have HF2 := Lib.hid ((HF.out _).trans (Fr.of_below hb))
  have hZ := Lib.hid (show w'.heap[w.heap.size]? = some (.cells gr0.row 24 (0, 0)) from (hb.block _ (by simp)).trans (heap_alloc_new w _))
  clear hw hc hb HT HF
  go_wp2_with (refine wpList_store_row rfl 24 (.tmp 2) (.tmp 14) rfl w.heap.size gr0.row rfl rfl 24 _ hZ.out grSize rfl (GH.one _) ?_)
  (try simp only [Exit.inBlock, Exit.then])
  refine bodyPost_ret (results_cell_tmp_row rfl _ _ w.heap.size _ gr0.row (0, 0) _ rfl (setRow_heap _ _ _ _ _ _ hZ.out) Tryd.underlying24 rfl grSize) rfl ?_
  exact ⟨_, _, rfl, HC.out.row hZ.out (grrow_plain _), HF2.out.row (Nat.le_refl _) _⟩
section
variable (p : Addr) (X T : Int) (r : List UInt8) (w : World)
set_option maxHeartbeats 2000000 in
theorem grhd_form (A : Int) (hp : p.block < w.heap.size)
    (hU : ∀ o, Calls Tryd.prog 41 #[.pointer (some p)] (w.alloc o) fun e w' => e = .returned (.tuple #[.int .u32 X, .nilIface]) ∧ Rdr w' p r ∧ Fr (· = p) (w.alloc o) w')
    (hT : X / 65536 = T) (hA : bits .andNot .u32 T 45056 = A) (hA0 : (A != 0) = true) :
    Calls Tryd.prog 24 #[.pointer (some p)] w (GRNo 3 [] p w) := by
  have HF : Hid (∀ o, Fr (· = p) w (w.alloc o)) := fun o => gr_alloc0 w o
  have HP := Lib.hid hp
  have HU := Lib.hid hU
  clear hU hp
  unfold GRNo
  go_enter Tryd.func24, Tryd.ntmps24
  go_wp2_with fail
  refine (HU.out _).mono ?_
  rintro e w1 ⟨rfl, hr, hf⟩
  have HF1 := Lib.hid ((HF.out _).trans hf)
  have hZ := Lib.hid (show w1.heap[w.heap.size]? = some (.cells gr0.row 24 (0, 0)) from (hf.block _ (by simp) (fun a ha => by subst ha; exact Nat.ne_of_lt HP.out)).trans (heap_alloc_new w _))
  clear hr hf HU HF
  go_wp2_with (refine wpList_store_row rfl 24 (.tmp 2) (.tmp 22) rfl w.heap.size gr0.row rfl rfl 24 _ hZ.out grSize rfl (GH.one _) ?_)
  (try simp only [Exit.inBlock, Exit.then])
  refine bodyPost_ret (results_cell_tmp_row rfl _ _ w.heap.size _ gr0.row (0, 0) _ rfl (setRow_heap _ _ _ _ _ _ hZ.out) Tryd.underlying24 rfl grSize) rfl ?_
  exact ⟨_, _, rfl, rfl, HF1.out.row (Nat.le_refl _) _⟩
set_option maxHeartbeats 2000000 in
theorem grhd_proto (A P : Int) (hp : p.block < w.heap.size)
    (hU : ∀ o, Calls Tryd.prog 41 #[.pointer (some p)] (w.alloc o) fun e w' => e = .returned (.tuple #[.int .u32 X, .nilIface]) ∧ Rdr w' p r ∧ Fr (· = p) (w.alloc o) w')
    (hT : X / 65536 = T) (hA : bits .andNot .u32 T 45056 = A) (hA0 : (A != 0) = false) (hP : IntKind.u16.wrap X = P) (hP0 : (P != 25944) = true) :
    Calls Tryd.prog 24 #[.pointer (some p)] w (GRNo 12 [] p w) := by
  have HF : Hid (∀ o, Fr (· = p) w (w.alloc o)) := fun o => gr_alloc0 w o
  have HP := Lib.hid hp
  have HU := Lib.hid hU
  clear hU hp
  unfold GRNo
  go_enter Tryd.func24, Tryd.ntmps24
  go_wp2_with fail
  refine (HU.out _).mono ?_
  rintro e w1 ⟨rfl, hr, hf⟩
  have HF1 := Lib.hid ((HF.out _).trans hf)
  have hZ := Lib.hid (show w1.heap[w.heap.size]? = some (.cells gr0.row 24 (0, 0)) from (hf.block _ (by simp) (fun a ha => by subst ha; exact Nat.ne_of_lt HP.out)).trans (heap_alloc_new w _))
  clear hr hf HU HF
  go_wp2_with (refine wpList_store_row rfl 24 (.tmp 2) (.tmp 28) rfl w.heap.size gr0.row rfl rfl 24 _ hZ.out grSize rfl (GH.one _) ?_)
  (try simp only [Exit.inBlock, Exit.then])
  refine bodyPost_ret (results_cell_tmp_row rfl _ _ w.heap.size _ gr0.row (0, 0) _ rfl (setRow_heap _ _ _ _ _ _ hZ.out) Tryd.underlying24 rfl grSize) rfl ?_
  exact ⟨_, _, rfl, rfl, HF1.out.row (Nat.le_refl _) _⟩
/-- What stands behind the flags and the protocol. -/
def GHd (s k q : Bool) (r : List UInt8) (p : Addr) (w : World) (e : Ending) (w' : World) : Prop :=
  (gends s k q r = true ∧ GRNo 2 [octetsWord] p w e w') ∨ (gends s k q r = false ∧ GRYes (gfields s k q r) (gleft s k q r) p w e w')
set_option maxHeartbeats 2000000 in
theorem grhd_in (A P : Int) (s k q : Bool) (hp : p.block < w.heap.size)
    (hU : ∀ o, Calls Tryd.prog 41 #[.pointer (some p)] (w.alloc o) fun e w' => e = .returned (.tuple #[.int .u32 X, .nilIface]) ∧ Rdr w' p r ∧ Fr (· = p) (w.alloc o) w')
    (hG : ∀ W, Rdr W p r → Calls Tryd.prog 42 #[.pointer (some p), .int .u32 T] W (GHd s k q r p W))
    (hT : X / 65536 = T) (hA : bits .andNot .u32 T 45056 = A) (hA0 : (A != 0) = false) (hP : IntKind.u16.wrap X = P) (hP0 : (P != 25944) = false) :
    Calls Tryd.prog 24 #[.pointer (some p)] w (GHd s k q r p w) := by
  have HF : Hid (∀ o, Fr (· = p) w (w.alloc o)) := fun o => gr_alloc0 w o
  have HP := Lib.hid hp
  have HU := Lib.hid hU
  have HG := Lib.hid hG
  clear hU hp hG
  unfold GHd GRNo GRYes at *
  go_enter Tryd.func24, Tryd.ntmps24
  go_wp2_with fail
  refine (HU.out _).mono ?_
  rintro e w1 ⟨rfl, hr, hf⟩
  have HF1 := Lib.hid ((HF.out _).trans hf)
  have HR1 := Lib.hid hr
  have hZ1 := Lib.hid (show w1.heap[w.heap.size]? = some (.cells gr0.row 24 (0, 0)) from (hf.block _ (by simp) (fun a ha => by subst ha; exact Nat.ne_of_lt HP.out)).trans (heap_alloc_new w _))
  clear hr hf HU HF
  go_wp2_with fail
  refine (HG.out _ HR1.out).mono ?_
  rintro e w2 (⟨he, T', u, rfl, hc, hf⟩ | ⟨he, rfl, hr, hf⟩)
  · have HE := Lib.hid he
    have HF2 := Lib.hid (HF1.out.trans hf)
    have HC := Lib.hid hc
    have hZ := Lib.hid ((hf.block _ (Array.getElem?_eq_some_iff.1 hZ1.out).1 (fun a ha => by subst ha; exact Nat.ne_of_lt HP.out)).trans hZ1.out)
    clear he hf hc HF1 hZ1 HR1 HG
    go_wp2_with (refine wpList_store_row rfl 24 (.tmp 2) (.tmp 33) rfl w.heap.size gr0.row rfl rfl 24 _ hZ.out grSize rfl (GH.one _) ?_)
    (try simp only [Exit.inBlock, Exit.then])
    refine bodyPost_ret (results_cell_tmp_row rfl _ _ w.heap.size _ gr0.row (0, 0) _ rfl (setRow_heap _ _ _ _ _ _ hZ.out) Tryd.underlying24 rfl grSize) rfl ?_
    exact .inl ⟨HE.out, _, _, rfl, HC.out.row hZ.out (grrow_plain _), HF2.out.row (Nat.le_refl _) _⟩
  · have HE := Lib.hid he
    have HF2 := Lib.hid (HF1.out.trans hf)
    have HR := Lib.hid hr
    have hZ := Lib.hid ((hf.block _ (Array.getElem?_eq_some_iff.1 hZ1.out).1 (fun a ha => by subst ha; exact Nat.ne_of_lt HP.out)).trans hZ1.out)
    clear he hf hr HF1 hZ1 HR1 HG
    go_wp2_with (refine wpList_store_row rfl 24 (.tmp 2) (.tmp 33) rfl w.heap.size (gfields s k q r).row rfl rfl 24 _ hZ.out grSize rfl (GH.one _) ?_)
    (try simp only [Exit.inBlock, Exit.then])
    refine bodyPost_ret (results_cell_tmp_row rfl _ _ w.heap.size _ (gfields s k q r).row (0, 0) _ rfl (setRow_heap _ _ _ _ _ _ hZ.out) Tryd.underlying24 rfl grSize) rfl ?_
    have hf3 : Fr (fun a => a.block = w.heap.size) w2 (w2.setRow w.heap.size (gfields s k q r).row) := Fr.of_row _ _ _
    exact .inr ⟨HE.out, rfl, HR.out.fr hf3 (fun e => by have h1 := HP.out; have e' : p.block = w.heap.size := e; omega) (fun x u hx e => grrow_bytes (h := gr0) hZ.out e u hx), HF2.out.row (Nat.le_refl _) _⟩
end
def gS (b0 : UInt8) : Bool := b0.toNat / 128 % 2 == 1
def gK (b0 : UInt8) : Bool := b0.toNat / 32 % 2 == 1
def gQ (b0 : UInt8) : Bool := b0.toNat / 16 % 2 == 1
def gOther (b0 b1 : UInt8) : Bool := !(b0.toNat % 16 == 0 && b0.toNat / 64 % 2 == 0 && b1.toNat == 0)
def gCode4 (b0 b1 b2 b3 : UInt8) : Nat := if gOther b0 b1 = true then 3 else if b2.toNat = 101 ∧ b3.toNat = 88 then 0 else 12
theorem grhd_any (p : Addr) (b0 b1 b2 b3 : UInt8) (r : List UInt8) (w : World) (h : Rdr w p (b0 :: b1 :: b2 :: b3 :: r)) (hL : (b0 :: b1 :: b2 :: b3 :: r).length ≤ 1099511627776) :
    Calls Tryd.prog 24 #[.pointer (some p)] w fun e w' => (gCode4 b0 b1 b2 b3 ≠ 0 ∧ GRNo (gCode4 b0 b1 b2 b3 : Nat) [] p w e w') ∨ (gCode4 b0 b1 b2 b3 = 0 ∧ GHd (gS b0) (gK b0) (gQ b0) r p w e w') := by
  have l0 := b0.toNat_lt
  have l1 := b1.toNat_lt
  have l2 := b2.toNat_lt
  have l3 := b3.toNat_lt
  obtain ⟨n, hn⟩ : ∃ n, n = b0.toNat * 256 + b1.toNat := ⟨_, rfl⟩
  have hn1 : n < 65536 := by omega
  have hT : ((((b0.toNat : Int) * 256 + b1.toNat) * 256 + b2.toNat) * 256 + b3.toNat) / 65536 = (n : Int) := by omega
  have hA := grother n hn1
  have hO : (bits .andNot .u32 (n : Int) 45056 != 0) = gOther b0 b1 := by
    rw [hA]
    unfold gOther
    congr 1
    rw [Bool.eq_iff_iff]
    simp only [Bool.and_eq_true, beq_iff_eq]
    omega
  have hU : ∀ o, Calls Tryd.prog 41 #[.pointer (some p)] (w.alloc o) fun e w' => e = .returned (.tuple #[.int .u32 ((((b0.toNat : Int) * 256 + b1.toNat) * 256 + b2.toNat) * 256 + b3.toNat), .nilIface]) ∧ Rdr w' p r ∧ Fr (· = p) (w.alloc o) w' :=
    fun o => (U32_ok p b0 b1 b2 b3 _ (w.alloc o) (h.below ((Below.refl _ _).alloc (Nat.le_refl _) o)) hL).mono fun e w' ⟨h1, h2, h3, _⟩ => ⟨h1, h2, h3⟩
  have hP : IntKind.u16.wrap ((((b0.toNat : Int) * 256 + b1.toNat) * 256 + b2.toNat) * 256 + b3.toNat) = ((b2.toNat * 256 + b3.toNat : Nat) : Int) := by
    rw [IntKind.wrap_u16]
    omega
  unfold gCode4
  by_cases h1 : gOther b0 b1 = true
  · rw [if_pos h1]
    exact (grhd_form p _ _ r w _ h.at_ hU hT rfl (by rw [hO, h1])).mono fun e w' k => .inl ⟨by decide, k⟩
  · have h1' : gOther b0 b1 = false := by simpa using h1
    rw [if_neg h1]
    by_cases h2 : b2.toNat = 101 ∧ b3.toNat = 88
    · rw [if_pos h2]
      refine (grhd_in p _ _ r w _ _ (gS b0) (gK b0) (gQ b0) h.at_ hU (fun W hW => ?_) hT rfl (by rw [hO, h1']) hP (by rw [bne_eq_false_iff_eq]; omega)).mono fun e w' k => .inr ⟨rfl, k⟩
      refine grfields_any p (n : Int) _ _ _ (gS b0) (gK b0) (gQ b0) r W hW (by simp at hL; omega) rfl rfl rfl ?_ ?_ ?_
      · rw [show (32768 : Int) = ((32768 : Nat) : Int) from rfl, grbit n 15 32768 rfl (by omega) (by omega)]
        unfold gS
        rw [show n / 32768 = b0.toNat / 128 by omega]
      · rw [show (8192 : Int) = ((8192 : Nat) : Int) from rfl, grbit n 13 8192 rfl (by omega) (by omega)]
        unfold gK
        rw [show n / 8192 = b0.toNat / 32 by omega]
      · rw [show (4096 : Int) = ((4096 : Nat) : Int) from rfl, grbit n 12 4096 rfl (by omega) (by omega)]
        unfold gQ
        rw [show n / 4096 = b0.toNat / 16 by omega]
    · rw [if_neg h2]
      exact (grhd_proto p _ _ r w _ _ h.at_ hU hT rfl (by rw [hO, h1']) hP (by rw [bne_iff_ne]; omega)).mono fun e w' k => .inl ⟨by decide, k⟩
end Go.Proofs.YtjnhfabgdegngaaDoor
