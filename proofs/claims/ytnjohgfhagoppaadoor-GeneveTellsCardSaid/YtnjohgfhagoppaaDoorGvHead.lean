/-
  What is proved: geneve.readHead by contract, with all of its outcomes.
  Conditions: the bytes are fewer than 2^40.
-/
import Derived.Test.YtnjohgfhagoppaaDoorGvEnc
namespace Go.Proofs.YtnjohgfhagoppaaDoor
open Go.RowKit

theorem gand_must (n : Nat) (hn : n < 4294967296) : bits .and .u32 (n : Int) 3229614080 = 0 ↔ (n / 1073741824 = 0 ∧ n / 8388608 % 2 = 0) := by
  have h := u32_and_nat n 3229614080 hn (by omega)
  have e : (3229614080 : Nat) = 2 ^ 31 ||| (2 ^ 30 ||| 2 ^ 23) := by decide
  rw [show (3229614080 : Int) = ((3229614080 : Nat) : Int) from rfl, h, e, Nat.and_or_distrib_left, Nat.and_or_distrib_left, xand_pow, xand_pow, xand_pow]
  rw [show ((0 : Int)) = ((0 : Nat) : Int) from rfl, Int.natCast_inj, Nat.or_eq_zero_iff, Nat.or_eq_zero_iff]
  constructor
  · rintro ⟨h1, h2, h3⟩
    have k1 : ¬ n / 2 ^ 31 % 2 = 1 := fun k => by rw [if_pos k] at h1; exact absurd h1 (by decide)
    have k2 : ¬ n / 2 ^ 30 % 2 = 1 := fun k => by rw [if_pos k] at h2; exact absurd h2 (by decide)
    have k3 : ¬ n / 2 ^ 23 % 2 = 1 := fun k => by rw [if_pos k] at h3; exact absurd h3 (by decide)
    omega
  · rintro ⟨h1, h2⟩
    rw [if_neg (by omega), if_neg (by omega), if_neg (by omega)]
    exact ⟨rfl, rfl, rfl⟩
theorem gand_crit (n : Nat) (hn : n < 4294967296) : bits .and .u32 (n : Int) 4194304 = if n / 4194304 % 2 = 1 then 4194304 else 0 := by
  have h := u32_and_nat n 4194304 hn (by omega)
  rw [show (4194304 : Int) = ((4194304 : Nat) : Int) from rfl, h, show (4194304 : Nat) = 2 ^ 22 by decide, xand_pow]
  split <;> rfl
/-- Where no header is: the number, and all but the reader is as it was. -/
def GNo (n : Int) (l : List ByteArray) (p : Addr) (w : World) (e : Ending) (w' : World) : Prop :=
  ∃ T u, e = .returned (.tuple #[.agg #[.int .u32 0, .int .i64 0, .bool false], .iface T u]) ∧ Chain w' n l (.iface T u) ∧ Fr (· = p) w w'
theorem fr_alloc0 {p : Addr} (w : World) (o : Obj) : Fr (· = p) w (w.alloc o) := Fr.of_below ((Below.refl _ _).alloc (Nat.le_refl _) o)
theorem hdSize : (Tryd.prog.info? 78).map (·.size) = some 3 := by kernel_rfl
def hd0 : Array Value := #[.int .u32 0, .int .i64 0, .bool false]
theorem hd0_plain : Plain hd0 := by
  intro v hv
  simp [hd0] at hv
  rcases hv with rfl | rfl | rfl <;> exact ⟨fun _ h => (by cases h), fun _ _ h => (by cases h)⟩
theorem hd0_bytes {w : World} {G : Nat} {t : TypeId} {fr : Nat × Nat} (h : w.heap[G]? = some (.cells hd0 t fr)) {a : Addr} (e : a.block = G) (u : UInt8) : w.cell? a ≠ some (B8 u) := by
  obtain ⟨b, i, n⟩ := a
  have e' : b = G := e
  subst e'
  cases n with
  | some n => unfold World.cell?; simp only [h]; simp
  | none =>
    rw [cell_of_row w b i _ _ _ h]
    unfold hd0
    match i with
    | 0 => simp [B8]
    | 1 => simp [B8]
    | 2 => simp [B8]
    | n + 3 => simp
theorem hd0_one : hd0.all (·.oneCell') = true := by simp [hd0, Value.oneCell']
theorem ghead_short0 (p : Addr) (bs : List UInt8) (w : World) (h : Rdr w p bs) (hL : bs.length < 4) :
    Calls Tryd.prog 46 #[.pointer (some p)] w (GNo 2 [octetsWord] p w) := by
  have HT : Hid (∀ o, _) := fun o => U32_short p bs (w.alloc o) (h.below ((Below.refl _ _).alloc (Nat.le_refl _) o)) hL
  have HF : Hid (∀ o, Fr (· = p) w (w.alloc o)) := fun o => fr_alloc0 w o
  clear h
  unfold GNo
  go_enter Tryd.func46, Tryd.ntmps46
  go_wp2_with fail
  refine (HT.out _).mono ?_
  rintro e w' ⟨rfl, hw⟩
  obtain ⟨hc, hb⟩ := wrong_facts 2 octetsWord hw
  rw [World.size_alloc] at hc
  have HC := Lib.hid hc
  have HF2 := Lib.hid ((HF.out _).trans (Fr.of_below hb))
  have hZ := Lib.hid (show w'.heap[w.heap.size]? = some (.cells hd0 78 (0, 0)) from (hb.block _ (by simp)).trans (heap_alloc_new w _))
  clear hw hc hb HT HF
  go_wp2_with (refine wpList_store_row rfl 78 (.tmp 2) (.tmp 14) rfl w.heap.size hd0 rfl rfl 78 _ hZ.out hdSize rfl hd0_one ?_)
  (try simp only [Exit.inBlock, Exit.then])
  refine bodyPost_ret (results_cell_tmp_row rfl _ _ w.heap.size _ hd0 (0, 0) _ rfl (setRow_heap _ _ _ _ _ _ hZ.out) Tryd.underlying78 rfl hdSize) rfl ?_
  exact ⟨_, _, rfl, HC.out.row hZ.out hd0_plain, HF2.out.row (Nat.le_refl _) _⟩
theorem ghead_short4 (p : Addr) (b0 b1 b2 b3 : UInt8) (bs : List UInt8) (w : World) (h : Rdr w p (b0 :: b1 :: b2 :: b3 :: bs)) (hL : bs.length < 4) :
    Calls Tryd.prog 46 #[.pointer (some p)] w (GNo 2 [octetsWord] p w) := by
  have HT : Hid (∀ o, _) := fun o => U32_ok p b0 b1 b2 b3 bs (w.alloc o) (h.below ((Below.refl _ _).alloc (Nat.le_refl _) o)) (by simp; omega)
  have HF : Hid (∀ o, Fr (· = p) w (w.alloc o)) := fun o => fr_alloc0 w o
  have HP := Lib.hid h.at_
  have HL := Lib.hid hL
  clear h hL
  unfold GNo
  go_enter Tryd.func46, Tryd.ntmps46
  go_wp2_with fail
  refine (HT.out _).mono ?_
  rintro e w1 ⟨rfl, hr, hf, hz⟩
  have HR1 := Lib.hid hr
  have HF1 := Lib.hid ((HF.out _).trans hf)
  have hZ := Lib.hid (show w1.heap[w.heap.size]? = some (.cells hd0 78 (0, 0)) from (hf.block _ (by simp) (fun a ha => by subst ha; exact Nat.ne_of_lt HP.out)).trans (heap_alloc_new w _))
  clear hr hf hz HT HF
  go_wp2_with fail
  refine (U32_short p bs w1 HR1.out HL.out).mono ?_
  rintro e w' ⟨rfl, hw⟩
  obtain ⟨hc, hb⟩ := wrong_facts 2 octetsWord hw
  have HC := Lib.hid hc
  have HF2 := Lib.hid (HF1.out.trans (Fr.of_below hb))
  have hZ2 := Lib.hid ((hb.block _ (Array.getElem?_eq_some_iff.1 hZ.out).1).trans hZ.out)
  clear hw hc hb HF1 HR1 hZ
  go_wp2_with (refine wpList_store_row rfl 78 (.tmp 2) (.tmp 23) rfl w.heap.size hd0 rfl rfl 78 _ hZ2.out hdSize rfl hd0_one ?_)
  (try simp only [Exit.inBlock, Exit.then])
  refine bodyPost_ret (results_cell_tmp_row rfl _ _ w.heap.size _ hd0 (0, 0) _ rfl (setRow_heap _ _ _ _ _ _ hZ2.out) Tryd.underlying78 rfl hdSize) rfl ?_
  exact ⟨_, _, rfl, HC.out.row hZ2.out hd0_plain, HF2.out.row (Nat.le_refl _) _⟩
/-- Both halves of the header are read. -/
structure Hd8 (p : Addr) (bs : List UInt8) (w W : World) : Prop where
  rdr : Rdr W p bs
  fr : Fr (· = p) w W
  cell : W.heap[w.heap.size]? = some (.cells hd0 78 (0, 0))
set_option maxHeartbeats 2000000 in
theorem ghead_form (p : Addr) (b0 b1 b2 b3 b4 b5 b6 b7 : UInt8) (bs : List UInt8) (w : World) (h : Rdr w p (b0 :: b1 :: b2 :: b3 :: b4 :: b5 :: b6 :: b7 :: bs)) (hL : bs.length ≤ 1099511627000) (hb : 64 ≤ b0.toNat ∨ 128 ≤ b1.toNat) :
    Calls Tryd.prog 46 #[.pointer (some p)] w (GNo 3 [] p w) := by
  have HT : Hid (∀ o, _) := fun o => U32_ok p b0 b1 b2 b3 _ (w.alloc o) (h.below ((Below.refl _ _).alloc (Nat.le_refl _) o)) (by simp; omega)
  have HF : Hid (∀ o, Fr (· = p) w (w.alloc o)) := fun o => fr_alloc0 w o
  have HP := Lib.hid h.at_
  have HL := Lib.hid hL
  have l0 := b0.toNat_lt
  have l1 := b1.toNat_lt
  have l2 := b2.toNat_lt
  have l3 := b3.toNat_lt
  have hx : ¬ bits .and .u32 ((((b0.toNat : Int) * 256 + b1.toNat) * 256 + b2.toNat) * 256 + b3.toNat) 3229614080 = 0 := by
    rw [show ((((b0.toNat : Int) * 256 + b1.toNat) * 256 + b2.toNat) * 256 + b3.toNat) = ((((b0.toNat * 256 + b1.toNat) * 256 + b2.toNat) * 256 + b3.toNat : Nat) : Int) by omega, gand_must _ (by omega)]
    omega
  clear h hL hb l0 l1 l2 l3
  unfold GNo
  go_enter Tryd.func46, Tryd.ntmps46
  go_wp2_with fail
  refine (HT.out _).mono ?_
  rintro e w1 ⟨rfl, hr, hf, hz⟩
  have HR1 := Lib.hid hr
  have HF1 := Lib.hid ((HF.out _).trans hf)
  have hZ := Lib.hid (show w1.heap[w.heap.size]? = some (.cells hd0 78 (0, 0)) from (hf.block _ (by simp) (fun a ha => by subst ha; exact Nat.ne_of_lt HP.out)).trans (heap_alloc_new w _))
  clear hr hf hz HT HF
  generalize (((b0.toNat : Int) * 256 + b1.toNat) * 256 + b2.toNat) * 256 + b3.toNat = X at *
  go_wp2_with fail
  refine (U32_ok p b4 b5 b6 b7 bs w1 HR1.out (by have := HL.out; simp; omega)).mono ?_
  rintro e w2 ⟨rfl, hr, hf, hz⟩
  have HF2 := Lib.hid (HF1.out.trans hf)
  have hZ2 := Lib.hid ((hf.block _ (Array.getElem?_eq_some_iff.1 hZ.out).1 (fun a ha => by subst ha; exact Nat.ne_of_lt HP.out)).trans hZ.out)
  clear hr hf hz HF1 HR1 hZ
  generalize (((b4.toNat : Int) * 256 + b5.toNat) * 256 + b6.toNat) * 256 + b7.toNat = Y at *
  go_wp2_with (refine wpList_store_row rfl 78 (.tmp 2) (.tmp 29) rfl w.heap.size hd0 rfl rfl 78 _ hZ2.out hdSize rfl hd0_one ?_)
  (try simp only [Exit.inBlock, Exit.then])
  refine bodyPost_ret (results_cell_tmp_row rfl _ _ w.heap.size _ hd0 (0, 0) _ rfl (setRow_heap _ _ _ _ _ _ hZ2.out) Tryd.underlying78 rfl hdSize) rfl ?_
  exact ⟨_, _, rfl, rfl, HF2.out.row (Nat.le_refl _) _⟩
set_option maxHeartbeats 2000000 in
theorem ghead_proto (p : Addr) (b0 b1 b2 b3 b4 b5 b6 b7 : UInt8) (bs : List UInt8) (w : World) (h : Rdr w p (b0 :: b1 :: b2 :: b3 :: b4 :: b5 :: b6 :: b7 :: bs)) (hL : bs.length ≤ 1099511627000) (hb : ¬ (64 ≤ b0.toNat ∨ 128 ≤ b1.toNat)) (ht : ¬ (b2.toNat = 101 ∧ b3.toNat = 88)) :
    Calls Tryd.prog 46 #[.pointer (some p)] w (GNo 12 [] p w) := by
  have HT : Hid (∀ o, _) := fun o => U32_ok p b0 b1 b2 b3 _ (w.alloc o) (h.below ((Below.refl _ _).alloc (Nat.le_refl _) o)) (by simp; omega)
  have HF : Hid (∀ o, Fr (· = p) w (w.alloc o)) := fun o => fr_alloc0 w o
  have HP := Lib.hid h.at_
  have HL := Lib.hid hL
  have l0 := b0.toNat_lt
  have l1 := b1.toNat_lt
  have l2 := b2.toNat_lt
  have l3 := b3.toNat_lt
  have hx : bits .and .u32 ((((b0.toNat : Int) * 256 + b1.toNat) * 256 + b2.toNat) * 256 + b3.toNat) 3229614080 = 0 := by
    rw [show ((((b0.toNat : Int) * 256 + b1.toNat) * 256 + b2.toNat) * 256 + b3.toNat) = ((((b0.toNat * 256 + b1.toNat) * 256 + b2.toNat) * 256 + b3.toNat : Nat) : Int) by omega, gand_must _ (by omega)]
    omega
  have a1 : IntKind.u16.bits = 16 := rfl
  have a2 : IntKind.u16.signed = false := rfl
  have hm : (IntKind.u16.wrap ((((b0.toNat : Int) * 256 + b1.toNat) * 256 + b2.toNat) * 256 + b3.toNat) != 25944) = true := by
    rw [bne_iff_ne]
    intro he
    simp [IntKind.wrap, a1, a2] at he
    omega
  clear h hL hb l0 l1 l2 l3 ht a1 a2
  unfold GNo
  go_enter Tryd.func46, Tryd.ntmps46
  go_wp2_with fail
  refine (HT.out _).mono ?_
  rintro e w1 ⟨rfl, hr, hf, hz⟩
  have HR1 := Lib.hid hr
  have HF1 := Lib.hid ((HF.out _).trans hf)
  have hZ := Lib.hid (show w1.heap[w.heap.size]? = some (.cells hd0 78 (0, 0)) from (hf.block _ (by simp) (fun a ha => by subst ha; exact Nat.ne_of_lt HP.out)).trans (heap_alloc_new w _))
  clear hr hf hz HT HF
  generalize (((b0.toNat : Int) * 256 + b1.toNat) * 256 + b2.toNat) * 256 + b3.toNat = X at *
  go_wp2_with fail
  refine (U32_ok p b4 b5 b6 b7 bs w1 HR1.out (by have := HL.out; simp; omega)).mono ?_
  rintro e w2 ⟨rfl, hr, hf, hz⟩
  have HF2 := Lib.hid (HF1.out.trans hf)
  have hZ2 := Lib.hid ((hf.block _ (Array.getElem?_eq_some_iff.1 hZ.out).1 (fun a ha => by subst ha; exact Nat.ne_of_lt HP.out)).trans hZ.out)
  clear hr hf hz HF1 HR1 hZ
  generalize (((b4.toNat : Int) * 256 + b5.toNat) * 256 + b6.toNat) * 256 + b7.toNat = Y at *
  go_wp2_with (refine wpList_store_row rfl 78 (.tmp 2) (.tmp 35) rfl w.heap.size hd0 rfl rfl 78 _ hZ2.out hdSize rfl hd0_one ?_)
  (try simp only [Exit.inBlock, Exit.then])
  refine bodyPost_ret (results_cell_tmp_row rfl _ _ w.heap.size _ hd0 (0, 0) _ rfl (setRow_heap _ _ _ _ _ _ hZ2.out) Tryd.underlying78 rfl hdSize) rfl ?_
  exact ⟨_, _, rfl, rfl, HF2.out.row (Nat.le_refl _) _⟩
def hdRow (I S : Int) (B : Bool) : Array Value := #[.int .u32 I, .int .i64 S, .bool B]
theorem hdRow_one (I S : Int) (B : Bool) : (hdRow I S B).all (·.oneCell') = true := by simp [hdRow, Value.oneCell']
set_option maxHeartbeats 2000000 in
theorem ghead_in (p : Addr) (X Y I D : Int) (B : Bool) (r1 bs : List UInt8) (w : World) (hp : p.block < w.heap.size)
    (hT : ∀ o, Calls Tryd.prog 53 #[.pointer (some p)] (w.alloc o) fun e w' => e = .returned (.tuple #[.int .u32 X, .nilIface]) ∧ Rdr w' p r1 ∧ Fr (· = p) (w.alloc o) w')
    (hU : ∀ W, Rdr W p r1 → Calls Tryd.prog 53 #[.pointer (some p)] W fun e w' => e = .returned (.tuple #[.int .u32 Y, .nilIface]) ∧ Rdr w' p bs ∧ Fr (· = p) W w')
    (hx : bits .and .u32 X 3229614080 = 0) (hm : (IntKind.u16.wrap X != 25944) = false) (hd : X / 16777216 = D) (hb0 : D < 64) (hD0 : 0 ≤ D) (hcr : (bits .and .u32 X 4194304 != 0) = B) (hid : Y / 256 = I) :
    Calls Tryd.prog 46 #[.pointer (some p)] w fun e w' => e = .returned (.tuple #[.agg #[.int .u32 I, .int .i64 (D * 4), .bool B], .nilIface]) ∧ Rdr w' p bs ∧ Fr (· = p) w w' := by
  have HF : Hid (∀ o, Fr (· = p) w (w.alloc o)) := fun o => fr_alloc0 w o
  have HP := Lib.hid hp
  have HT := Lib.hid hT
  have HU := Lib.hid hU
  clear hT hU hp
  go_enter Tryd.func46, Tryd.ntmps46
  go_wp2_with fail
  refine (HT.out _).mono ?_
  rintro e w1 ⟨rfl, hr, hf⟩
  have HR1 := Lib.hid hr
  have HF1 := Lib.hid ((HF.out _).trans hf)
  have hZ := Lib.hid (show w1.heap[w.heap.size]? = some (.cells hd0 78 (0, 0)) from (hf.block _ (by simp) (fun a ha => by subst ha; exact Nat.ne_of_lt HP.out)).trans (heap_alloc_new w _))
  clear hr hf HT HF
  go_wp2_with fail
  refine (HU.out w1 HR1.out).mono ?_
  rintro e w2 ⟨rfl, hr, hf⟩
  have HR2 := Lib.hid hr
  have HF2 := Lib.hid (HF1.out.trans hf)
  have hZ2 := Lib.hid ((hf.block _ (Array.getElem?_eq_some_iff.1 hZ.out).1 (fun a ha => by subst ha; exact Nat.ne_of_lt HP.out)).trans hZ.out)
  clear hr hf HF1 HR1 hZ HU
  go_wp2_with (refine wpList_store_row rfl 78 (.tmp 2) (.tmp 46) rfl w.heap.size (hdRow I (D * 4) B) rfl rfl 78 _ hZ2.out hdSize rfl (hdRow_one _ _ _) ?_)
  (try simp only [Exit.inBlock, Exit.then])
  refine bodyPost_ret (results_cell_tmp_row rfl _ _ w.heap.size _ (hdRow I (D * 4) B) (0, 0) _ rfl (setRow_heap _ _ _ _ _ _ hZ2.out) Tryd.underlying78 rfl hdSize) rfl ?_
  have hf3 : Fr (fun a => a.block = w.heap.size) w2 (w2.setRow w.heap.size (hdRow I (D * 4) B)) := Fr.of_row _ _ _
  refine ⟨rfl, HR2.out.fr hf3 (fun e => by have := HP.out; have e' : p.block = w.heap.size := e; omega) (fun x u hu e => ?_), HF2.out.row (Nat.le_refl _) _⟩
  exact hd0_bytes hZ2.out e u hu
set_option maxHeartbeats 2000000 in
theorem ghead_ok (p : Addr) (b0 b1 b2 b3 b4 b5 b6 b7 : UInt8) (bs : List UInt8) (w : World) (h : Rdr w p (b0 :: b1 :: b2 :: b3 :: b4 :: b5 :: b6 :: b7 :: bs)) (hL : bs.length ≤ 1099511627000) (hb : ¬ (64 ≤ b0.toNat ∨ 128 ≤ b1.toNat)) (ht : b2.toNat = 101 ∧ b3.toNat = 88) :
    Calls Tryd.prog 46 #[.pointer (some p)] w fun e w' => e = .returned (.tuple #[.agg #[.int .u32 (((b4.toNat * 256 + b5.toNat) * 256 + b6.toNat : Nat) : Int), .int .i64 ((b0.toNat : Int) * 4), .bool (b1.toNat / 64 % 2 == 1)], .nilIface]) ∧ Rdr w' p bs ∧ Fr (· = p) w w' := by
  have l0 := b0.toNat_lt
  have l1 := b1.toNat_lt
  have l2 := b2.toNat_lt
  have l3 := b3.toNat_lt
  have l7 := b7.toNat_lt
  have a1 : IntKind.u16.bits = 16 := rfl
  have a2 : IntKind.u16.signed = false := rfl
  have hN : ((((b0.toNat : Int) * 256 + b1.toNat) * 256 + b2.toNat) * 256 + b3.toNat) = ((((b0.toNat * 256 + b1.toNat) * 256 + b2.toNat) * 256 + b3.toNat : Nat) : Int) := by omega
  refine ghead_in p ((((b0.toNat : Int) * 256 + b1.toNat) * 256 + b2.toNat) * 256 + b3.toNat) ((((b4.toNat : Int) * 256 + b5.toNat) * 256 + b6.toNat) * 256 + b7.toNat) _ _ _ (b4 :: b5 :: b6 :: b7 :: bs) bs w h.at_ (fun o => ?_) (fun W hW => ?_) ?_ ?_ ?_ ?_ ?_ ?_ ?_
  · exact (U32_ok p b0 b1 b2 b3 _ (w.alloc o) (h.below ((Below.refl _ _).alloc (Nat.le_refl _) o)) (by simp; omega)).mono fun e w' ⟨h1, h2, h3, _⟩ => ⟨h1, h2, h3⟩
  · exact (U32_ok p b4 b5 b6 b7 bs W hW (by simp; omega)).mono fun e w' ⟨h1, h2, h3, _⟩ => ⟨h1, h2, h3⟩
  · rw [hN, gand_must _ (by omega)]; omega
  · rw [bne_eq_false_iff_eq]
    simp [IntKind.wrap, a1, a2]
    omega
  · omega
  · omega
  · omega
  · rw [hN, gand_crit _ (by omega)]
    by_cases hc : b1.toNat / 64 % 2 = 1
    · rw [if_pos (by omega), hc]; rfl
    · rw [if_neg (by omega)]
      have : b1.toNat / 64 % 2 = 0 := by omega
      rw [this]; rfl
  · omega
end Go.Proofs.YtnjohgfhagoppaaDoor
