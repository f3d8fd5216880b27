/-
  What is proved: words for memory (a frame by cells, bytes that a slice holds), and octets.own: a copy of the bytes in a new block.
  Conditions: the bytes are fewer than 2^40.
-/
import Derived.Test.YtmkfinpkidfohaaDoorText
import Derived.OwnWalk
import Derived.Laws.CopyOwn
namespace Go.Proofs.YtmkfinpkidfohaaDoor
open Go.RowKit

/-- A byte's value. -/
def B8 (b : UInt8) : Value := .int .u8 (b.toNat : Int)
/-- A block of bytes. -/
def bytesObj (bs : List UInt8) : Obj := .cells (bs.map B8).toArray 5

/-- Of what was there nothing has turned but the cells in 'p'. -/
structure Fr (p : Addr → Prop) (w w' : World) : Prop where
  os : w'.os = w.os
  tape : w'.tape = w.tape
  output : w'.output = w.output
  size : w.heap.size ≤ w'.heap.size
  cell : ∀ a, a.block < w.heap.size → ¬ p a → w'.cell? a = w.cell? a
  frozen : ∀ a, a.block < w.heap.size → ¬ p a → w'.frozen? a = w.frozen? a
  block : ∀ k, k < w.heap.size → (∀ a, p a → a.block ≠ k) → w'.heap[k]? = w.heap[k]?

section
variable {p q : Addr → Prop} {a b c : World}
theorem Fr.refl (p : Addr → Prop) (w : World) : Fr p w w := ⟨rfl, rfl, rfl, Nat.le_refl _, fun _ _ _ => rfl, fun _ _ _ => rfl, fun _ _ _ => rfl⟩
theorem Fr.trans (h : Fr p a b) (k : Fr p b c) : Fr p a c :=
  ⟨k.os.trans h.os, k.tape.trans h.tape, k.output.trans h.output, Nat.le_trans h.size k.size,
   fun x hx hn => (k.cell x (Nat.lt_of_lt_of_le hx h.size) hn).trans (h.cell x hx hn),
   fun x hx hn => (k.frozen x (Nat.lt_of_lt_of_le hx h.size) hn).trans (h.frozen x hx hn),
   fun i hi hn => (k.block i (Nat.lt_of_lt_of_le hi h.size) hn).trans (h.block i hi hn)⟩
/-- One frame behind another: what the second one wrote was new, or is named by the first. -/
theorem Fr.then (h : Fr p a b) (k : Fr q b c) (hq : ∀ x, q x → x.block < a.heap.size → p x) : Fr p a c :=
  ⟨k.os.trans h.os, k.tape.trans h.tape, k.output.trans h.output, Nat.le_trans h.size k.size,
   fun x hx hn => (k.cell x (Nat.lt_of_lt_of_le hx h.size) (fun e => hn (hq x e hx))).trans (h.cell x hx hn),
   fun x hx hn => (k.frozen x (Nat.lt_of_lt_of_le hx h.size) (fun e => hn (hq x e hx))).trans (h.frozen x hx hn),
   fun i hi hn => (k.block i (Nat.lt_of_lt_of_le hi h.size) (fun x e hi' => hn x (hq x e (by omega)) hi')).trans (h.block i hi hn)⟩
/-- What was written is known, or new. -/
theorem Fr.weaken (h : Fr q a b) (hp : ∀ x, q x → x.block < a.heap.size → p x) : Fr p a b :=
  ⟨h.os, h.tape, h.output, h.size, fun x hx hn => h.cell x hx (fun hq => hn (hp x hq hx)), fun x hx hn => h.frozen x hx (fun hq => hn (hp x hq hx)),
   fun i hi hn => h.block i hi (fun x hq e => hn x (hp x hq (by omega)) e)⟩
theorem Fr.of_below (h : Below a.heap.size a b) : Fr p a b :=
  ⟨h.os, h.tape, h.output, h.size, fun _ hx _ => h.cell hx, fun _ hx _ => h.frozen hx, fun i hi _ => h.block i hi⟩
theorem Fr.below {B : Nat} (h : Fr p a b) (hB : B ≤ a.heap.size) (hp : ∀ x, p x → B ≤ x.block) : Below B a b :=
  ⟨h.os, h.tape, h.output, h.size, fun k hk => h.block k (by omega) (fun x hx e => by have := hp x hx; omega)⟩
theorem Fr.alloc (h : Fr p a b) (o : Obj) : Fr p a (b.alloc o) :=
  h.trans (Fr.of_below ((Below.refl _ _).alloc (Nat.le_refl _) o))
theorem Fr.drewN (h : Fr p a b) (n : Nat) : Fr p a (b.drewN n) := ⟨h.os, h.tape, h.output, h.size, h.cell, h.frozen, h.block⟩
theorem frozen_setCell (w : World) (x y : Addr) (v : Value) : (w.setCell x v).frozen? y = w.frozen? y := by
  unfold World.frozen? World.setCell
  simp only [Array.getElem?_modify]
  by_cases h : x.block = y.block
  · simp only [h, if_true]
    cases w.heap[y.block]? with
    | none => rfl
    | some o => cases o <;> rfl
  · simp [h]
theorem Fr.of_set (w : World) (x : Addr) (v : Value) (hx : p x) : Fr p w (w.setCell x v) :=
  ⟨rfl, rfl, rfl, by simp, fun y _ hn => World.cell?_setCell_other _ _ _ _ (fun e => hn (e ▸ hx)), fun y _ _ => frozen_setCell _ _ _ _,
   fun k _ hn => Below.heap_setCell _ _ _ _ (fun e => hn x hx e.symm)⟩
theorem Fr.set (h : Fr p a b) (x : Addr) (v : Value) (hx : p x) : Fr p a (b.setCell x v) := h.trans (Fr.of_set b x v hx)
end

/-- The slice value 'v' holds the bytes 'bs'. -/
def Rd (w : World) (v : Value) (bs : List UInt8) : Prop :=
  ∃ A c, v = .slice A bs.length c ∧ bs.length ≤ c ∧ (0 < bs.length → ∃ g o, A = some ⟨g, o, none⟩ ∧ ∀ i u, bs[i]? = some u → w.cell? ⟨g, o + i, none⟩ = some (B8 u))
theorem Rd.nil (w : World) : Rd w (.slice none 0 0) [] := ⟨none, 0, rfl, Nat.le_refl _, fun h => absurd h (by simp)⟩
theorem Rd.keep {w w' : World} {v : Value} {bs : List UInt8} (h : Rd w v bs) (hk : ∀ x u, w.cell? x = some (B8 u) → w'.cell? x = some (B8 u)) : Rd w' v bs := by
  obtain ⟨A, c, hv, hc, hr⟩ := h
  exact ⟨A, c, hv, hc, fun h0 => by obtain ⟨g, o, e, hi⟩ := hr h0; exact ⟨g, o, e, fun i u hu => hk _ _ (hi i u hu)⟩⟩
theorem Rd.below {w w' : World} {v : Value} {bs : List UInt8} (h : Rd w v bs) (hb : Below w.heap.size w w') : Rd w' v bs :=
  h.keep fun x _ hu => (hb.cell (World.block_lt_of_cell? w x hu)).trans hu
/-- Over a frame in which no byte was written. -/
theorem Rd.fr {p : Addr → Prop} {w w' : World} {v : Value} {bs : List UInt8} (h : Rd w v bs) (hf : Fr p w w') (hp : ∀ x u, w.cell? x = some (B8 u) → ¬ p x) : Rd w' v bs :=
  h.keep fun x u hu => (hf.cell x (World.block_lt_of_cell? w x hu) (hp x u hu)).trans hu

theorem getElem_B8 {bs : List UInt8} {j : Nat} {v : Value} (h : (bs.map B8)[j]? = some v) : ∃ u, bs[j]? = some u ∧ v = B8 u := by
  rw [List.getElem?_map] at h
  cases hb : bs[j]? with
  | none => simp [hb] at h
  | some u => exact ⟨u, rfl, by simpa [hb] using h.symm⟩
theorem bytesCell {w : World} {g : Nat} {bs : List UInt8} (h : w.heap[g]? = some (bytesObj bs)) (i : Nat) (u : UInt8) (hu : bs[i]? = some u) : w.cell? ⟨g, i, none⟩ = some (B8 u) := by
  unfold bytesObj at h
  rw [cell_of_row w g i _ _ _ h]
  simp [hu]
theorem Rd.of_obj {w : World} {g c : Nat} {bs : List UInt8} (h : w.heap[g]? = some (bytesObj bs)) (hc : bs.length ≤ c) : Rd w (.slice (some ⟨g, 0, none⟩) bs.length c) bs :=
  ⟨_, c, rfl, hc, fun _ => ⟨g, 0, rfl, fun i u hu => by rw [Nat.zero_add]; exact bytesCell h i u hu⟩⟩
theorem bytesObj_new (w : World) (bs : List UInt8) : (w.alloc (bytesObj bs)).heap[w.heap.size]? = some (bytesObj bs) := heap_alloc_new w _

theorem oneCell_B8 (bs : List UInt8) : ∀ v ∈ bs.map B8, v.oneCell' = true := by
  intro v hv
  obtain ⟨u, _, rfl⟩ := List.mem_map.1 hv
  rfl
theorem setRow_alloc (w : World) (c cs : Array Value) (t : TypeId) : (w.alloc (.cells c t)).setRow w.heap.size cs = w.alloc (.cells cs t) := by
  unfold World.setRow World.alloc
  congr 1
  apply Array.ext_getElem?
  intro i
  simp only [Array.getElem?_modify, Array.getElem?_push]
  by_cases h : i = w.heap.size
  · subst h; simp
  · simp [h, Ne.symm h]
theorem u8info : (Tryd.prog.info? 5).map (fun i => (i.zero, i.size, i.bytes)) = some (some (.int .u8 0), 1, 1) := by kernel_rfl
theorem make_bytes (n : Nat) (hn : n ≤ 1099511627776) (w : World) : (Instr.makeSlice 25 (.int .i64 (n : Int)) (.int .i64 (n : Int))).run Tryd.prog w = .ok (.slice (some ⟨w.heap.size, 0, none⟩) n n) (w.alloc (bytesObj (List.replicate n 0))) := by
  obtain ⟨i0, hi, hz0, hz1, hz2⟩ := info_parts u8info
  have h := run_make (P := Tryd.prog) w 25 5 i0 (.int .u8 0) Tryd.underlying25 hi hz0 .i64 .i64 n n (by omega) (Int.le_refl _) (by rw [hz2]; omega) (by omega)
  rw [h, hz1]
  have e : madeCells (Value.int .u8 0).cells (((n : Int)).toNat * 1) = ((List.replicate n (0 : UInt8)).map B8).toArray := by
    apply Array.toList_inj.1
    simp only [Int.toNat_natCast, Nat.mul_one]
    rw [show (Value.int .u8 0).cells = #[Value.int .u8 0] from rfl, toList_madeCells_one]
    simp [B8]
  rw [e]
  simp [bytesObj]

theorem copy_bytes (bs cur : List UInt8) (hl : cur.length = bs.length) (A : Option Addr) (c d n : Nat) (hn : n = bs.length) (w : World) (hcell : 0 < bs.length → ∃ g o, A = some ⟨g, o, none⟩ ∧ ∀ i u, bs[i]? = some u → w.cell? ⟨g, o + i, none⟩ = some (B8 u)) :
    ∀ ty, (Builtin.copy_ #[25, 25] ty #[.slice (some ⟨w.heap.size, 0, none⟩) n d, .slice A n c]).run Tryd.prog (w.alloc (bytesObj cur)) = .ok (.int .i64 n) (w.alloc (bytesObj bs)) := by
  intro ty
  subst hn
  have hs : (Tryd.prog.info? 5).map (·.size) = some 1 := by
    obtain ⟨i0, hi, hz0, hz1, hz2⟩ := info_parts u8info
    simp [hi, hz1]
  by_cases h0 : bs.length = 0
  · have hb : bs = [] := List.eq_nil_of_length_eq_zero h0
    have hc0 : cur = [] := List.eq_nil_of_length_eq_zero (by omega)
    subst hb hc0
    exact run_copy_none (P := Tryd.prog) (w.alloc (bytesObj [])) 25 25 ty 5 _ A 0 d 0 c Tryd.underlying25 hs rfl
  · obtain ⟨g, o, rfl, hi⟩ := hcell (by omega)
    have h := run_copy_row (P := Tryd.prog) (w.alloc (bytesObj cur)) 25 25 ty 5 w.heap.size 0 bs.length d ⟨g, o, none⟩ bs.length c (cur.map B8).toArray 5 (bs.map B8) Tryd.underlying25 hs
      (heap_alloc_new w _) (by simp) (fun j v hv => by
        obtain ⟨u, hu, rfl⟩ := getElem_B8 hv
        have hcl := hi j u hu
        rw [Addr.add_lit, World.cell?_alloc_lt _ _ _ (World.block_lt_of_cell? w _ hcl)]
        exact hcl) (by simp [hl]) (oneCell_B8 bs)
    rw [h]
    have e : (List.take 0 (cur.map B8).toArray.toList ++ bs.map B8 ++ List.drop (0 + (bs.map B8).length) (cur.map B8).toArray.toList) = bs.map B8 := by
      simp [hl]
    rw [e, bytesObj, setRow_alloc]
    simp [bytesObj, goInt]

theorem own_any (v : Value) (bs : List UInt8) (w : World) (hr : Rd w v bs) (hn : bs.length ≤ 1099511627776) :
    Calls Tryd.prog 22 #[v] w fun e w' => e = .returned (.slice (some ⟨w.heap.size, 0, none⟩) bs.length bs.length) ∧ w.alloc (bytesObj bs) = w' := by
  obtain ⟨A, c, rfl, hc, hcell⟩ := hr
  have hmk := make_bytes bs.length hn
  have hcp := copy_bytes bs (List.replicate bs.length 0) (by simp) A c bs.length bs.length rfl w hcell
  clear hcell
  go_enter Tryd.func22, Tryd.ntmps22
  go_wp2_with fail
  go_ret
  exact ⟨rfl, rfl⟩
end Go.Proofs.YtmkfinpkidfohaaDoor
