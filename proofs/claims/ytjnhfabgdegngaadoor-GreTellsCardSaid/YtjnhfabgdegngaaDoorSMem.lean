/-
  What is proved: words for memory (a frame by cells, bytes that a slice holds, a row of one's own, texts of bytes), free of any package's own functions.
  Conditions: the bytes are fewer than 2^40.
-/
import Derived.Test.YtjnhfabgdegngaaDoorProg
import Derived.WalkKit
import Derived.RowKitTokens
import Derived.Below
import Derived.Outline
import Derived.Lib.Hide
import Derived.Deep.LoopGhost
import Derived.Deep.Draws
import Derived.Deep.QuietTactic
import Derived.BigQuiet
import Derived.WalkLawsBesides
import Derived.WalkSpells
import Derived.OwnWalk
import Derived.Laws.CopyOwn
import Derived.Laws.IdiomStrings
import Derived.Maps.AppendAt
import Derived.LoopTactic
import Derived.Deep.RegionHeld
namespace Go.Proofs.YtjnhfabgdegngaaDoor
open Go.RowKit

/-- A byte's value. -/
def B8 (b : UInt8) : Value := .int .u8 (b.toNat : Int)
/-- A block of bytes. -/
def bytesObj (bs : List UInt8) : Obj := .cells (bs.map B8).toArray 5

/-- Of what was there nothing has turned but the cells in 'p'. -/
structure Fr (p : Addr → Prop) (w w' : World) : Prop where
  os : w'.os = w.os
  tape : w'.tape = w.tape
  output : w'.output = w.output
  size : w.heap.size ≤ w'.heap.size
  cell : ∀ a, a.block < w.heap.size → ¬ p a → w'.cell? a = w.cell? a
  frozen : ∀ a, a.block < w.heap.size → ¬ p a → w'.frozen? a = w.frozen? a
  block : ∀ k, k < w.heap.size → (∀ a, p a → a.block ≠ k) → w'.heap[k]? = w.heap[k]?

section
variable {p q : Addr → Prop} {a b c : World}
theorem Fr.refl (p : Addr → Prop) (w : World) : Fr p w w := ⟨rfl, rfl, rfl, Nat.le_refl _, fun _ _ _ => rfl, fun _ _ _ => rfl, fun _ _ _ => rfl⟩
theorem Fr.trans (h : Fr p a b) (k : Fr p b c) : Fr p a c :=
  ⟨k.os.trans h.os, k.tape.trans h.tape, k.output.trans h.output, Nat.le_trans h.size k.size,
   fun x hx hn => (k.cell x (Nat.lt_of_lt_of_le hx h.size) hn).trans (h.cell x hx hn),
   fun x hx hn => (k.frozen x (Nat.lt_of_lt_of_le hx h.size) hn).trans (h.frozen x hx hn),
   fun i hi hn => (k.block i (Nat.lt_of_lt_of_le hi h.size) hn).trans (h.block i hi hn)⟩
/-- One frame behind another: what the second one wrote was new, or is named by the first. -/
theorem Fr.then (h : Fr p a b) (k : Fr q b c) (hq : ∀ x, q x → x.block < a.heap.size → p x) : Fr p a c :=
  ⟨k.os.trans h.os, k.tape.trans h.tape, k.output.trans h.output, Nat.le_trans h.size k.size,
   fun x hx hn => (k.cell x (Nat.lt_of_lt_of_le hx h.size) (fun e => hn (hq x e hx))).trans (h.cell x hx hn),
   fun x hx hn => (k.frozen x (Nat.lt_of_lt_of_le hx h.size) (fun e => hn (hq x e hx))).trans (h.frozen x hx hn),
   fun i hi hn => (k.block i (Nat.lt_of_lt_of_le hi h.size) (fun x e hi' => hn x (hq x e (by omega)) hi')).trans (h.block i hi hn)⟩
/-- What was written is known, or new. -/
theorem Fr.weaken (h : Fr q a b) (hp : ∀ x, q x → x.block < a.heap.size → p x) : Fr p a b :=
  ⟨h.os, h.tape, h.output, h.size, fun x hx hn => h.cell x hx (fun hq => hn (hp x hq hx)), fun x hx hn => h.frozen x hx (fun hq => hn (hp x hq hx)),
   fun i hi hn => h.block i hi (fun x hq e => hn x (hp x hq (by omega)) e)⟩
theorem Fr.of_below (h : Below a.heap.size a b) : Fr p a b :=
  ⟨h.os, h.tape, h.output, h.size, fun _ hx _ => h.cell hx, fun _ hx _ => h.frozen hx, fun i hi _ => h.block i hi⟩
theorem Fr.below {B : Nat} (h : Fr p a b) (hB : B ≤ a.heap.size) (hp : ∀ x, p x → B ≤ x.block) : Below B a b :=
  ⟨h.os, h.tape, h.output, h.size, fun k hk => h.block k (by omega) (fun x hx e => by have := hp x hx; omega)⟩
theorem Fr.alloc (h : Fr p a b) (o : Obj) : Fr p a (b.alloc o) :=
  h.trans (Fr.of_below ((Below.refl _ _).alloc (Nat.le_refl _) o))
theorem Fr.drewN (h : Fr p a b) (n : Nat) : Fr p a (b.drewN n) := ⟨h.os, h.tape, h.output, h.size, h.cell, h.frozen, h.block⟩
theorem frozen_setCell (w : World) (x y : Addr) (v : Value) : (w.setCell x v).frozen? y = w.frozen? y := by
  unfold World.frozen? World.setCell
  simp only [Array.getElem?_modify]
  by_cases h : x.block = y.block
  · simp only [h, if_true]
    cases w.heap[y.block]? with
    | none => rfl
    | some o => cases o <;> rfl
  · simp [h]
theorem Fr.of_set (w : World) (x : Addr) (v : Value) (hx : p x) : Fr p w (w.setCell x v) :=
  ⟨rfl, rfl, rfl, by simp, fun y _ hn => World.cell?_setCell_other _ _ _ _ (fun e => hn (e ▸ hx)), fun y _ _ => frozen_setCell _ _ _ _,
   fun k _ hn => Below.heap_setCell _ _ _ _ (fun e => hn x hx e.symm)⟩
theorem Fr.set (h : Fr p a b) (x : Addr) (v : Value) (hx : p x) : Fr p a (b.setCell x v) := h.trans (Fr.of_set b x v hx)
end

/-- The slice value 'v' holds the bytes 'bs'. -/
def Rd (w : World) (v : Value) (bs : List UInt8) : Prop :=
  ∃ A c, v = .slice A bs.length c ∧ bs.length ≤ c ∧ (0 < bs.length → ∃ g o, A = some ⟨g, o, none⟩ ∧ ∀ i u, bs[i]? = some u → w.cell? ⟨g, o + i, none⟩ = some (B8 u))
theorem Rd.nil (w : World) : Rd w (.slice none 0 0) [] := ⟨none, 0, rfl, Nat.le_refl _, fun h => absurd h (by simp)⟩
theorem Rd.keep {w w' : World} {v : Value} {bs : List UInt8} (h : Rd w v bs) (hk : ∀ x u, w.cell? x = some (B8 u) → w'.cell? x = some (B8 u)) : Rd w' v bs := by
  obtain ⟨A, c, hv, hc, hr⟩ := h
  exact ⟨A, c, hv, hc, fun h0 => by obtain ⟨g, o, e, hi⟩ := hr h0; exact ⟨g, o, e, fun i u hu => hk _ _ (hi i u hu)⟩⟩
theorem Rd.below {w w' : World} {v : Value} {bs : List UInt8} (h : Rd w v bs) (hb : Below w.heap.size w w') : Rd w' v bs :=
  h.keep fun x _ hu => (hb.cell (World.block_lt_of_cell? w x hu)).trans hu
/-- Over a frame in which no byte was written. -/
theorem Rd.fr {p : Addr → Prop} {w w' : World} {v : Value} {bs : List UInt8} (h : Rd w v bs) (hf : Fr p w w') (hp : ∀ x u, w.cell? x = some (B8 u) → ¬ p x) : Rd w' v bs :=
  h.keep fun x u hu => (hf.cell x (World.block_lt_of_cell? w x hu) (hp x u hu)).trans hu

theorem getElem_B8 {bs : List UInt8} {j : Nat} {v : Value} (h : (bs.map B8)[j]? = some v) : ∃ u, bs[j]? = some u ∧ v = B8 u := by
  rw [List.getElem?_map] at h
  cases hb : bs[j]? with
  | none => simp [hb] at h
  | some u => exact ⟨u, rfl, by simpa [hb] using h.symm⟩
theorem bytesCell {w : World} {g : Nat} {bs : List UInt8} (h : w.heap[g]? = some (bytesObj bs)) (i : Nat) (u : UInt8) (hu : bs[i]? = some u) : w.cell? ⟨g, i, none⟩ = some (B8 u) := by
  unfold bytesObj at h
  rw [cell_of_row w g i _ _ _ h]
  simp [hu]
theorem Rd.of_obj {w : World} {g c : Nat} {bs : List UInt8} (h : w.heap[g]? = some (bytesObj bs)) (hc : bs.length ≤ c) : Rd w (.slice (some ⟨g, 0, none⟩) bs.length c) bs :=
  ⟨_, c, rfl, hc, fun _ => ⟨g, 0, rfl, fun i u hu => by rw [Nat.zero_add]; exact bytesCell h i u hu⟩⟩
theorem bytesObj_new (w : World) (bs : List UInt8) : (w.alloc (bytesObj bs)).heap[w.heap.size]? = some (bytesObj bs) := heap_alloc_new w _

theorem oneCell_B8 (bs : List UInt8) : ∀ v ∈ bs.map B8, v.oneCell' = true := by
  intro v hv
  obtain ⟨u, _, rfl⟩ := List.mem_map.1 hv
  rfl
theorem setRow_alloc (w : World) (c cs : Array Value) (t : TypeId) : (w.alloc (.cells c t)).setRow w.heap.size cs = w.alloc (.cells cs t) := by
  unfold World.setRow World.alloc
  congr 1
  apply Array.ext_getElem?
  intro i
  simp only [Array.getElem?_modify, Array.getElem?_push]
  by_cases h : i = w.heap.size
  · subst h; simp
  · simp [h, Ne.symm h]
theorem u8info : (Tryd.prog.info? 5).map (fun i => (i.zero, i.size, i.bytes)) = some (some (.int .u8 0), 1, 1) := by kernel_rfl
theorem make_bytes (n : Nat) (hn : n ≤ 1099511627776) (w : World) : (Instr.makeSlice 25 (.int .i64 (n : Int)) (.int .i64 (n : Int))).run Tryd.prog w = .ok (.slice (some ⟨w.heap.size, 0, none⟩) n n) (w.alloc (bytesObj (List.replicate n 0))) := by
  obtain ⟨i0, hi, hz0, hz1, hz2⟩ := info_parts u8info
  have h := run_make (P := Tryd.prog) w 25 5 i0 (.int .u8 0) Tryd.underlying25 hi hz0 .i64 .i64 n n (by omega) (Int.le_refl _) (by rw [hz2]; omega) (by omega)
  rw [h, hz1]
  have e : madeCells (Value.int .u8 0).cells (((n : Int)).toNat * 1) = ((List.replicate n (0 : UInt8)).map B8).toArray := by
    apply Array.toList_inj.1
    simp only [Int.toNat_natCast, Nat.mul_one]
    rw [show (Value.int .u8 0).cells = #[Value.int .u8 0] from rfl, toList_madeCells_one]
    simp [B8]
  rw [e]
  simp [bytesObj]

theorem copy_bytes (bs cur : List UInt8) (hl : cur.length = bs.length) (A : Option Addr) (c d n : Nat) (hn : n = bs.length) (w : World) (hcell : 0 < bs.length → ∃ g o, A = some ⟨g, o, none⟩ ∧ ∀ i u, bs[i]? = some u → w.cell? ⟨g, o + i, none⟩ = some (B8 u)) :
    ∀ ty, (Builtin.copy_ #[25, 25] ty #[.slice (some ⟨w.heap.size, 0, none⟩) n d, .slice A n c]).run Tryd.prog (w.alloc (bytesObj cur)) = .ok (.int .i64 n) (w.alloc (bytesObj bs)) := by
  intro ty
  subst hn
  have hs : (Tryd.prog.info? 5).map (·.size) = some 1 := by
    obtain ⟨i0, hi, hz0, hz1, hz2⟩ := info_parts u8info
    simp [hi, hz1]
  by_cases h0 : bs.length = 0
  · have hb : bs = [] := List.eq_nil_of_length_eq_zero h0
    have hc0 : cur = [] := List.eq_nil_of_length_eq_zero (by omega)
    subst hb hc0
    exact run_copy_none (P := Tryd.prog) (w.alloc (bytesObj [])) 25 25 ty 5 _ A 0 d 0 c Tryd.underlying25 hs rfl
  · obtain ⟨g, o, rfl, hi⟩ := hcell (by omega)
    have h := run_copy_row (P := Tryd.prog) (w.alloc (bytesObj cur)) 25 25 ty 5 w.heap.size 0 bs.length d ⟨g, o, none⟩ bs.length c (cur.map B8).toArray 5 (bs.map B8) Tryd.underlying25 hs
      (heap_alloc_new w _) (by simp) (fun j v hv => by
        obtain ⟨u, hu, rfl⟩ := getElem_B8 hv
        have hcl := hi j u hu
        rw [Addr.add_lit, World.cell?_alloc_lt _ _ _ (World.block_lt_of_cell? w _ hcl)]
        exact hcl) (by simp [hl]) (oneCell_B8 bs)
    rw [h]
    have e : (List.take 0 (cur.map B8).toArray.toList ++ bs.map B8 ++ List.drop (0 + (bs.map B8).length) (cur.map B8).toArray.toList) = bs.map B8 := by
      simp [hl]
    rw [e, bytesObj, setRow_alloc]
    simp [bytesObj, goInt]

/-- A text of bytes. -/
def txt (bs : List UInt8) : ByteArray := ⟨bs.toArray⟩

theorem convert_rd {w : World} {v : Value} {bs : List UInt8} (h : Rd w v bs) : (convert 25 9 v).run Tryd.prog w = .ok (.string (txt bs)) w := by
  obtain ⟨A, c, rfl, hc, hcell⟩ := h
  cases A with
  | none =>
    have hx0 : bs = [] := by
      rcases Nat.eq_zero_or_pos bs.length with h0 | h0
      · exact List.eq_nil_of_length_eq_zero h0
      · obtain ⟨g, o, e, _⟩ := hcell h0
        cases e
    subst hx0
    rw [List.length_nil, run_convert_bytes_string w 25 9 5 none 0 c Tryd.underlying25 Tryd.underlying5 Tryd.underlying9]
    rfl
  | some ad =>
    have hcl : ∀ i u, bs[i]? = some u → w.cell? (ad.add i) = some (B8 u) := by
      intro i u hu
      have h0 : 0 < bs.length := by
        have := (List.getElem?_eq_some_iff.1 hu).1
        omega
      obtain ⟨g, o, e, hi⟩ := hcell h0
      obtain rfl := Option.some.inj e
      rw [Addr.add_lit]
      exact hi i u hu
    exact run_convert_bytes_back w 25 9 5 ad c bs Tryd.underlying25 Tryd.underlying5 Tryd.underlying9 (fun j hj => hcl j _ (List.getElem?_eq_getElem hj))

theorem min_run {P : Program} (ats : Array TypeId) (ty : TypeId) (a b k : Int) (h : k = min a b) (W : World) : (Builtin.min_ ats ty #[.int .i64 a, .int .i64 b]).run P W = .ok (.int .i64 k) W := by
  subst h
  by_cases hba : b < a
  · simp [Builtin.min_, Builtin.min2, hba]
    omega
  · simp [Builtin.min_, Builtin.min2, hba]
    omega
theorem txt_append (a b : List UInt8) : txt a ++ txt b = txt (a ++ b) := by
  apply ByteArray.ext
  simp [txt]
theorem txt_size (a : List UInt8) : (txt a).size = a.length := by simp [txt, ByteArray.size]
theorem below_to {B B' : Nat} {a b c : World} (h : Below B a b) (k : Below B' b c) (hB : B ≤ B') : Below B a c := h.trans (k.mono hB)
theorem wpList_append_eq {P : Program} {w : World} {ops : Array Oper} {rest : List Oper} {o : Oper} {a : Act} {Q : Exit → Act → World → Prop} (hgd : o.guard = none) (s x : Operand) (t : TypeId)
    (ho : o.op = .call { callee := .builtin .append, args := #[s, x], argTypes := #[t, t] }) (v1 v2 : Value) (hs : a.eval s = v1) (hx : a.eval x = v2) (v' : Value) (w' : World)
    (hrun : (Builtin.append_ #[t, t] o.type #[v1, v2]).run P w = .ok v' w') (h : wpList P ops Q rest (a.put o.dst v') w') : wpList P ops Q (o :: rest) a w := by
  refine wpList_plain hgd fun K hK => ?_
  unfold Oper.wp execOp
  simp only [ho, resolve, invoke, builtin, Sem.run_bind, Sem.run_pure, Result.andThen_ok, List.map_toArray, List.map_cons, List.map_nil, hs, hx, hrun]
  exact hK _ _ h

/-- An append of bytes to a row of one's own. -/
theorem append_own {w : World} {v : Value} {bs : List UInt8} (ho : w.ownsRow 0 5 1 v bs.length (bs.map B8)) (xs : List UInt8) (u : Value) (hx : Rd w u xs) (hL : bs.length + xs.length ≤ 1099511627776) :
    ∃ v' w1, (Builtin.append_ #[25, 25] 25 #[v, u]).run Tryd.prog w = .ok v' w1 ∧ w1.ownsRow 0 5 1 v' (bs ++ xs).length ((bs ++ xs).map B8) ∧ w.grownBy w1 v.ownBlock ∧ (v'.ownBlock = v.ownBlock ∨ v'.ownBlock = some w.heap.size) := by
  obtain ⟨A, c, rfl, hc, hcell⟩ := hx
  cases A with
  | none =>
    have hx0 : xs = [] := by
      rcases Nat.eq_zero_or_pos xs.length with h0 | h0
      · exact List.eq_nil_of_length_eq_zero h0
      · obtain ⟨g, o, e, _⟩ := hcell h0
        cases e
    subst hx0
    obtain ⟨i0, hi, hz0, hz1, hz2⟩ := info_parts u8info
    have hrun : (Builtin.append_ #[25, 25] 25 #[v, .slice none 0 c]).run Tryd.prog w = .ok v w := by
      rcases ho.2 with ⟨rfl, hn⟩ | ⟨g, cap, cur, rfl, _, _, hnc, _⟩
      · simp [Builtin.append_, run_underlying Tryd.underlying25, sizeOf, typeInfo, hi, Builtin.lenOf, Builtin.firstCells]
      · simp [Builtin.append_, run_underlying Tryd.underlying25, sizeOf, typeInfo, hi, Builtin.lenOf, Builtin.firstCells, hnc, storeCells]
    exact ⟨v, w, hrun, by rw [List.append_nil]; exact ho, World.grownBy.refl w _, .inl rfl⟩
  | some ad =>
    have hcl : ∀ i u, xs[i]? = some u → w.cell? (ad.add i) = some (B8 u) := by
      intro i u hu
      have h0 : 0 < xs.length := by
        have := (List.getElem?_eq_some_iff.1 hu).1
        omega
      obtain ⟨g, o, e, hi⟩ := hcell h0
      obtain rfl := Option.some.inj e
      rw [Addr.add_lit]
      exact hi i u hu
    obtain ⟨i0, hi, hz0, hz1, hz2⟩ := info_parts u8info
    obtain ⟨v', w1, hrun, ho1, hg, _, hat⟩ := run_append_own_at (P := Tryd.prog) w 0 25 25 5 i0 (.int .u8 0) 1 1 Tryd.underlying25 hi hz0 hz1 hz2 rfl (by omega) v bs.length (bs.map B8) ho ad xs.length c (xs.map B8) (by simp)
      (fun j u hu => by obtain ⟨x, hx', rfl⟩ := getElem_B8 hu; exact hcl j x hx') (oneCell_B8 xs) (by simp only [maxLen]; omega) (by omega) (by omega)
    exact ⟨v', w1, hrun, by rw [List.length_append, List.map_append]; exact ho1, hg, hat⟩

/-- A row of one's own that is one block. -/
structure Row (w : World) (g cap : Nat) (bs : List UInt8) : Prop where
  ex : ∃ cur : Array Value, w.heap[g]? = some (.cells cur 5 (0, 0)) ∧ cur.size = cap ∧ cur.toList.take bs.length = bs.map B8
  fits : bs.length ≤ cap
theorem Row.rd {w : World} {g cap : Nat} {bs : List UInt8} (h : Row w g cap bs) : Rd w (.slice (some ⟨g, 0, none⟩) bs.length cap) bs := by
  obtain ⟨cur, h1, h2, h3⟩ := h.ex
  refine ⟨_, cap, rfl, h.fits, fun _ => ⟨g, 0, rfl, fun i u hu => ?_⟩⟩
  rw [Nat.zero_add, cell_of_row w g i _ _ _ h1]
  have hi : i < bs.length := (List.getElem?_eq_some_iff.1 hu).1
  have h4 : (cur.toList.take bs.length)[i]? = some (B8 u) := by rw [h3, List.getElem?_map, hu]; rfl
  rw [List.getElem?_take, if_pos hi] at h4
  simpa using h4
/-- append(v, u...) where 'v' is a row with a block: the answer has one, too. -/
theorem append_row {w : World} {g0 c0 : Nat} {bs : List UInt8} (hr : Row w g0 c0 bs) (hm : c0 ≤ maxLen) (xs : List UInt8) (u : Value) (hx : Rd w u xs) (hL : bs.length + xs.length ≤ 1099511627776) :
    ∃ g c w1, (Builtin.append_ #[25, 25] 25 #[.slice (some ⟨g0, 0, none⟩) bs.length c0, u]).run Tryd.prog w = .ok (.slice (some ⟨g, 0, none⟩) (bs ++ xs).length c) w1 ∧ Row w1 g c (bs ++ xs) ∧ w.grownBy w1 (some g0) ∧ (g = g0 ∨ g = w.heap.size) := by
  obtain ⟨cur, h1, h2, h3⟩ := hr.ex
  have ho : w.ownsRow 0 5 1 (.slice (some ⟨g0, 0, none⟩) bs.length c0) bs.length (bs.map B8) := ⟨by simp, .inr ⟨g0, c0, cur, rfl, Nat.zero_le _, h1, hr.fits, hm, by rw [h2, Nat.mul_one], by rw [Nat.mul_one]; exact h3⟩⟩
  obtain ⟨v', w1, hrun, ho1, hg, hat⟩ := append_own ho xs u hx hL
  rcases ho1.2 with ⟨e, _⟩ | ⟨g, c, cur', e, _, k1, k2, _, k4, k5⟩
  · subst e
    rcases hat with h | h
    · simp [Value.ownBlock] at h
    · simp [Value.ownBlock] at h
  · subst e
    refine ⟨g, c, w1, hrun, ⟨⟨cur', k1, by rw [k4, Nat.mul_one], by rw [Nat.mul_one] at k5; exact k5⟩, k2⟩, hg, ?_⟩
    rcases hat with h | h
    · exact .inl (by simpa [Value.ownBlock] using h)
    · exact .inr (by simpa [Value.ownBlock] using h)

/-- A block of bytes of which nothing but its size is known. -/
def Any (w : World) (g n : Nat) : Prop := ∃ cur : Array Value, w.heap[g]? = some (.cells cur 5 (0, 0)) ∧ n ≤ cur.size
theorem Any.cell {w : World} {g n : Nat} (h : Any w g n) {k : Nat} (hk : k < n) : (∃ v, w.cell? ⟨g, k, none⟩ = some v) ∧ w.frozen? ⟨g, k, none⟩ = false := by
  obtain ⟨cur, h1, h2⟩ := h
  refine ⟨⟨cur[k]'(by omega), ?_⟩, by simp [World.frozen?, h1]⟩
  rw [cell_of_row w g k _ _ _ h1]
  simp
theorem Any.set {w : World} {g n : Nat} (h : Any w g n) (k : Nat) (v : Value) : Any (w.setCell ⟨g, k, none⟩ v) g n := by
  obtain ⟨cur, h1, h2⟩ := h
  exact ⟨cur.setIfInBounds k v, by simp [World.setCell, Array.getElem?_modify, h1], by simpa using h2⟩

/-- Numbers as bytes, the highest first. -/
def be2 (n : Nat) : List UInt8 := [UInt8.ofNat (n / 256), UInt8.ofNat n]
def be4 (n : Nat) : List UInt8 := [UInt8.ofNat (n / 16777216), UInt8.ofNat (n / 65536), UInt8.ofNat (n / 256), UInt8.ofNat n]
theorem ofNat_lt (n : Nat) : (UInt8.ofNat n).toNat = n % 256 := by simp
/-- The lowest byte of an integer. -/
def b8i (z : Int) : UInt8 := UInt8.ofNat (z % 256).toNat
theorem b8i_toNat (z : Int) : ((b8i z).toNat : Int) = z % 256 := by unfold b8i; rw [ofNat_lt]; omega
theorem B8_of {x : UInt8} {y : Int} (h : (x.toNat : Int) = y) : B8 x = .int .u8 y := by subst h; rfl
end Go.Proofs.YtjnhfabgdegngaaDoor
