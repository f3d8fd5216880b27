/-
  What is proved: geneve.readOption by contract, with all of its outcomes.
  Conditions: the bytes are fewer than 2^40.
-/
import Derived.Test.YtnjohgfhagoppaaDoorGvHead
import Derived.Test.YtnjohgfhagoppaaDoorAtW
namespace Go.Proofs.YtnjohgfhagoppaaDoor
open Go.RowKit

theorem gand_hi3 (n : Nat) (hn : n < 4294967296) : bits .and .u32 (n : Int) 224 = 0 ↔ n % 256 < 32 := by
  have h := u32_and_nat n 224 hn (by omega)
  have e : (224 : Nat) = 2 ^ 7 ||| (2 ^ 6 ||| 2 ^ 5) := by decide
  rw [show (224 : Int) = ((224 : Nat) : Int) from rfl, h, e, Nat.and_or_distrib_left, Nat.and_or_distrib_left, xand_pow, xand_pow, xand_pow]
  rw [show ((0 : Int)) = ((0 : Nat) : Int) from rfl, Int.natCast_inj, Nat.or_eq_zero_iff, Nat.or_eq_zero_iff]
  constructor
  · rintro ⟨h1, h2, h3⟩
    have k1 : ¬ n / 2 ^ 7 % 2 = 1 := fun k => by rw [if_pos k] at h1; exact absurd h1 (by decide)
    have k2 : ¬ n / 2 ^ 6 % 2 = 1 := fun k => by rw [if_pos k] at h2; exact absurd h2 (by decide)
    have k3 : ¬ n / 2 ^ 5 % 2 = 1 := fun k => by rw [if_pos k] at h3; exact absurd h3 (by decide)
    omega
  · intro h1
    rw [if_neg (by omega), if_neg (by omega), if_neg (by omega)]
    exact ⟨rfl, rfl, rfl⟩
theorem opSz : (Tryd.prog.info? 50).map (·.size) = some 3 := by kernel_rfl
def opRow (c t : Int) (v : Value) : Array Value := #[.int .u16 c, .int .u8 t, v]
theorem opRow_one (c t : Int) (A : Option Addr) (n k : Nat) : (opRow c t (.slice A n k)).all (·.oneCell') = true := by simp [opRow, Value.oneCell']
def op0 : Array Value := opRow 0 0 (.slice none 0 0)
/-- Where no option is: the number, and all but the reader is as it was. -/
def ONo (p : Addr) (w : World) (e : Ending) (w' : World) : Prop :=
  e = .returned (.tuple #[.agg op0, .iface 30 (.int .i64 3)]) ∧ Fr (· = p) w w'
theorem gopt_few (p : Addr) (bs : List UInt8) (w : World) (h : Rdr w p bs) (hL : bs.length < 4) :
    Calls Tryd.prog 58 #[.pointer (some p)] w (ONo p w) := by
  have HT : Hid (∀ o, _) := fun o => U32_short p bs (w.alloc o) (h.below ((Below.refl _ _).alloc (Nat.le_refl _) o)) hL
  have HF : Hid (∀ o, Fr (· = p) w (w.alloc o)) := fun o => fr_alloc0 w o
  clear h
  unfold ONo
  go_enter Tryd.func58, Tryd.ntmps58
  go_wp2_with fail
  refine (HT.out _).mono ?_
  rintro e w' ⟨rfl, hw⟩
  obtain ⟨hc, hb⟩ := wrong_facts 2 octetsWord hw
  have HF2 := Lib.hid ((HF.out _).trans (Fr.of_below hb))
  have hZ := Lib.hid (show w'.heap[w.heap.size]? = some (.cells op0 50 (0, 0)) from (hb.block _ (by simp)).trans (heap_alloc_new w _))
  clear hw hc hb HT HF
  go_wp2_with (refine wpList_store_row rfl 50 (.tmp 2) (.tmp 19) rfl w.heap.size op0 rfl rfl 50 _ hZ.out opSz rfl (opRow_one _ _ _ _ _) ?_)
  (try simp only [Exit.inBlock, Exit.then])
  refine bodyPost_ret (results_cell_tmp_row rfl _ _ w.heap.size _ op0 (0, 0) _ rfl (setRow_heap _ _ _ _ _ _ hZ.out) Tryd.underlying50 rfl opSz) rfl ?_
  exact ⟨rfl, HF2.out.row (Nat.le_refl _) _⟩
section
variable (p : Addr) (X N : Int) (r : List UInt8) (w : World)
theorem gopt_bad (hp : p.block < w.heap.size)
    (hT : ∀ o, Calls Tryd.prog 53 #[.pointer (some p)] (w.alloc o) fun e w' => e = .returned (.tuple #[.int .u32 X, .nilIface]) ∧ Rdr w' p r ∧ Fr (· = p) (w.alloc o) w')
    (hx : ¬ bits .and .u32 X 224 = 0) :
    Calls Tryd.prog 58 #[.pointer (some p)] w (ONo p w) := by
  have HF : Hid (∀ o, Fr (· = p) w (w.alloc o)) := fun o => fr_alloc0 w o
  have HP := Lib.hid hp
  have HT := Lib.hid hT
  clear hT hp
  unfold ONo
  go_enter Tryd.func58, Tryd.ntmps58
  go_wp2_with fail
  refine (HT.out _).mono ?_
  rintro e w1 ⟨rfl, hr, hf⟩
  have HF1 := Lib.hid ((HF.out _).trans hf)
  have hZ := Lib.hid (show w1.heap[w.heap.size]? = some (.cells op0 50 (0, 0)) from (hf.block _ (by simp) (fun a ha => by subst ha; exact Nat.ne_of_lt HP.out)).trans (heap_alloc_new w _))
  clear hr hf HT HF
  go_wp2_with (refine wpList_store_row rfl 50 (.tmp 2) (.tmp 19) rfl w.heap.size op0 rfl rfl 50 _ hZ.out opSz rfl (opRow_one _ _ _ _ _) ?_)
  (try simp only [Exit.inBlock, Exit.then])
  refine bodyPost_ret (results_cell_tmp_row rfl _ _ w.heap.size _ op0 (0, 0) _ rfl (setRow_heap _ _ _ _ _ _ hZ.out) Tryd.underlying50 rfl opSz) rfl ?_
  exact ⟨rfl, HF1.out.row (Nat.le_refl _) _⟩
theorem gopt_short (hp : p.block < w.heap.size)
    (hT : ∀ o, Calls Tryd.prog 53 #[.pointer (some p)] (w.alloc o) fun e w' => e = .returned (.tuple #[.int .u32 X, .nilIface]) ∧ Rdr w' p r ∧ Fr (· = p) (w.alloc o) w')
    (hx : bits .and .u32 X 224 = 0) (hn : IntKind.u8.wrap X = N) (h0 : 0 ≤ N) (h1 : N < 256) (hr : (r.length : Int) < N * 4) :
    Calls Tryd.prog 58 #[.pointer (some p)] w (ONo p w) := by
  have HF : Hid (∀ o, Fr (· = p) w (w.alloc o)) := fun o => fr_alloc0 w o
  have HP := Lib.hid hp
  have HT := Lib.hid hT
  have HR := Lib.hid hr
  clear hT hp hr
  unfold ONo
  go_enter Tryd.func58, Tryd.ntmps58
  go_wp2_with fail
  refine (HT.out _).mono ?_
  rintro e w1 ⟨rfl, hr, hf⟩
  have HF1 := Lib.hid ((HF.out _).trans hf)
  have HR1 := Lib.hid hr
  have hZ := Lib.hid (show w1.heap[w.heap.size]? = some (.cells op0 50 (0, 0)) from (hf.block _ (by simp) (fun a ha => by subst ha; exact Nat.ne_of_lt HP.out)).trans (heap_alloc_new w _))
  clear hr hf HT HF
  go_wp2_with fail
  refine (Bytes_short p r _ w1 HR1.out HR.out).mono ?_
  rintro e w' ⟨rfl, hw⟩
  obtain ⟨_, hb⟩ := wrong_facts 2 octetsWord hw
  have HF2 := Lib.hid (HF1.out.trans (Fr.of_below hb))
  have hZ2 := Lib.hid ((hb.block _ (Array.getElem?_eq_some_iff.1 hZ.out).1).trans hZ.out)
  clear hw hb HF1 HR1 hZ
  go_wp2_with (refine wpList_store_row rfl 50 (.tmp 2) (.tmp 32) rfl w.heap.size op0 rfl rfl 50 _ hZ2.out opSz rfl (opRow_one _ _ _ _ _) ?_)
  (try simp only [Exit.inBlock, Exit.then])
  refine bodyPost_ret (results_cell_tmp_row rfl _ _ w.heap.size _ op0 (0, 0) _ rfl (setRow_heap _ _ _ _ _ _ hZ2.out) Tryd.underlying50 rfl opSz) rfl ?_
  exact ⟨rfl, HF2.out.row (Nat.le_refl _) _⟩
/-- Where one is. -/
def OYes (p : Addr) (g0 : Nat) (C T : Int) (n : Nat) (r : List UInt8) (w : World) (e : Ending) (w' : World) : Prop :=
  ∃ g, e = .returned (.tuple #[.agg (opRow C T (.slice (some ⟨g, 0, none⟩) n n)), .nilIface]) ∧ w.heap.size < g ∧ w'.heap[g]? = some (bytesObj (r.take n)) ∧ RdrG w' p g0 (r.drop n) ∧ Fr (· = p) w w'
theorem gopt_in (C T : Int) (n g0 : Nat) (hp : p.block < w.heap.size) (hg0 : g0 < w.heap.size) (hpg : p.block ≠ g0)
    (hT : ∀ o, Calls Tryd.prog 53 #[.pointer (some p)] (w.alloc o) fun e w' => e = .returned (.tuple #[.int .u32 X, .nilIface]) ∧ RdrG w' p g0 r ∧ Fr (· = p) (w.alloc o) w')
    (hx : bits .and .u32 X 224 = 0) (hn : IntKind.u8.wrap X = N) (h0 : 0 ≤ N) (h1 : N < 256) (hnn : N * 4 = (n : Int)) (hr : n ≤ r.length) (hL : r.length ≤ 1099511627776) (hC : IntKind.u16.wrap (X / 65536) = C) (hTt : IntKind.u8.wrap (X / 256) = T) :
    Calls Tryd.prog 58 #[.pointer (some p)] w (OYes p g0 C T n r w) := by
  have HF : Hid (∀ o, Fr (· = p) w (w.alloc o)) := fun o => fr_alloc0 w o
  have HP := Lib.hid hp
  have HT := Lib.hid hT
  have HR := Lib.hid (And.intro hr hL)
  have HG0 := Lib.hid (And.intro hg0 hpg)
  clear hT hp hr hL hg0 hpg
  unfold OYes
  go_enter Tryd.func58, Tryd.ntmps58
  go_wp2_with fail
  refine (HT.out _).mono ?_
  rintro e w1 ⟨rfl, hr, hf⟩
  have HF1 := Lib.hid ((HF.out _).trans hf)
  have HR1 := Lib.hid hr
  have hZ := Lib.hid (show w1.heap[w.heap.size]? = some (.cells op0 50 (0, 0)) from (hf.block _ (by simp) (fun a ha => by subst ha; exact Nat.ne_of_lt HP.out)).trans (heap_alloc_new w _))
  clear hr hf HT HF
  go_wp2_with fail
  refine (Bytes_at p g0 HG0.out.2 r n w1 HR1.out HR.out.1 HR.out.2).mono ?_
  rintro e w2 ⟨rfl, v, ht, hw⟩
  have hfr : Fr (· = p) w1 w2 := by subst hw; exact (Fr.of_set (p := (· = p)) w1 p v rfl).alloc _
  have hpt : w2.heap[w1.heap.size]? = some (bytesObj (r.take n)) := by
    subst hw
    have h := bytesObj_new (w1.setCell p v) (r.take n)
    rwa [World.size_setCell] at h
  have hr2 : RdrG w2 p g0 (r.drop n) := by subst hw; exact ht.below ((Below.refl _ _).alloc (Nat.le_refl _) _)
  have HK := Lib.hid (And.intro hr2 hpt)
  have HF2 := Lib.hid (HF1.out.trans hfr)
  have HG : Hid (w.heap.size < w1.heap.size) := (Array.getElem?_eq_some_iff.1 hZ.out).1
  have hZ2 := Lib.hid ((hfr.block _ (Array.getElem?_eq_some_iff.1 hZ.out).1 (fun a ha => by subst ha; exact Nat.ne_of_lt HP.out)).trans hZ.out)
  clear ht hw HF1 HR1 hZ hfr hpt hr2
  generalize w1.heap.size = g at *
  go_wp2_with (refine wpList_store_row rfl 50 (.tmp 2) (.tmp 41) rfl w.heap.size (opRow C T (.slice (some ⟨g, 0, none⟩) n n)) rfl rfl 50 _ hZ2.out opSz rfl (opRow_one _ _ _ _ _) ?_)
  (try simp only [Exit.inBlock, Exit.then])
  refine bodyPost_ret (results_cell_tmp_row rfl _ _ w.heap.size _ (opRow C T (.slice (some ⟨g, 0, none⟩) n n)) (0, 0) _ rfl (setRow_heap _ _ _ _ _ _ hZ2.out) Tryd.underlying50 rfl opSz) rfl ?_
  have hf3 : Fr (fun a => a.block = w.heap.size) w2 (w2.setRow w.heap.size (opRow C T (.slice (some ⟨g, 0, none⟩) n n))) := Fr.of_row _ _ _
  have hg := HG.out
  refine ⟨g, rfl, hg, ?_, HK.out.1.fr hf3 (fun e => by have := HP.out; have e' : p.block = w.heap.size := e; omega) (fun x e => by have := HG0.out.1; have e' : x.block = w.heap.size := e; omega), HF2.out.row (Nat.le_refl _) _⟩
  rw [setRow_other _ _ _ (by omega)]
  exact HK.out.2
end
end Go.Proofs.YtnjohgfhagoppaaDoor
