/-
  What is proved: a route table in memory: what its map holds is a rising row of routes; looked up, stored, taken out, counted.
  Conditions: the numbers fit their types.
-/
import Derived.Test.YtimpellpfnmicaaRtL
import Derived.Maps.OwnSet
import Derived.Maps.RangeWalk
import Derived.DeepKeys4
import Derived.WalkKit
import Derived.Below
import Derived.Deep.Draws
import Derived.RowKitTokens
import Derived.Outline
import Derived.Lib.Hide
import Derived.Deep.LoopGhost
import Derived.Deep.QuietTactic
import Derived.BigQuiet
import Derived.WalkLawsBesides
import Derived.WalkSpells
import Derived.OwnWalk
import Derived.LoopTactic
import Derived.Deep.RegionHeld
import Derived.Deep.RegionHeldLaw
import Derived.Deep.CutBlock
namespace Go.Proofs.Ytimpellpfnmicaa
open Go.RowKit Go.Maps

theorem below_dN {B : Nat} {a b : World} (h : Below B a b) (n : Nat) : Below B a (b.drewN n) := ⟨h.os, h.tape, h.output, h.size, h.block⟩
theorem below_to {B B' : Nat} {a b c : World} (h : Below B a b) (k : Below B' b c) (hB : B ≤ B') : Below B a c := h.trans (k.mono hB)

def U32 (x : Int) : Prop := 0 ≤ x ∧ x < 4294967296
def I64 (x : Int) : Prop := -9223372036854775808 ≤ x ∧ x ≤ 9223372036854775807
theorem U32.wf {x : Int} (h : U32 x) : (Lit.int .u32 x).wf = true := by
  have hmin : IntKind.u32.min = 0 := by rfl
  have hmax : IntKind.u32.max = 4294967295 := by rfl
  unfold U32 at h
  simp [Lit.wf, hmin, hmax]
  omega
theorem U32.of {x : Int} (h : (Lit.int .u32 x).wf = true) : U32 x := by
  have hmin : IntKind.u32.min = 0 := by rfl
  have hmax : IntKind.u32.max = 4294967295 := by rfl
  simp [Lit.wf, hmin, hmax] at h
  unfold U32
  omega
theorem I64.wf {x : Int} (h : I64 x) : (Lit.int .i64 x).wf = true := by
  have hmin : IntKind.i64.min = -9223372036854775808 := by rfl
  have hmax : IntKind.i64.max = 9223372036854775807 := by rfl
  unfold I64 at h
  simp [Lit.wf, hmin, hmax]
  omega
theorem I64.of {x : Int} (h : (Lit.int .i64 x).wf = true) : I64 x := by
  have hmin : IntKind.i64.min = -9223372036854775808 := by rfl
  have hmax : IntKind.i64.max = 9223372036854775807 := by rfl
  simp [Lit.wf, hmin, hmax] at h
  unfold I64
  omega

structure Rt.In (r : Rt) : Prop where
  d : U32 r.d
  b : I64 r.b
  v : U32 r.v
  o : I64 r.o
/-- A right route: from 0 to 32 bits, and nothing but noughts behind them. -/
structure Rt.Right (r : Rt) : Prop where
  i : r.In
  b0 : 0 ≤ r.b
  b1 : r.b ≤ 32
  c : cutI r.d r.b = r.d

def Rt.cells (r : Rt) : Array Value := #[.int .u32 r.d, .int .i64 r.b, .int .u32 r.v, .int .i64 r.o]
def Rt.val (r : Rt) : Value := .agg #[.int .u32 r.d, .int .i64 r.b, .int .u32 r.v, .int .i64 r.o]
def Rt.zero : Rt := ⟨0, 0, 0, 0⟩
instance : Inhabited Rt := ⟨Rt.zero⟩
def Rt.dat (r : Rt) : DataW Unit := .agg [.lit (.int .u32 r.d), .lit (.int .i64 r.b), .lit (.int .u32 r.v), .lit (.int .i64 r.o)]
theorem Rt.dat_inj {r s : Rt} (h : r.dat = s.dat) : r = s := by
  simp [Rt.dat] at h
  exact Rt.eq h.1 h.2.1 h.2.2.1 h.2.2.2
theorem Rt.val_inj {r s : Rt} (h : r.val = s.val) : r = s := by
  simp [Rt.val] at h
  exact Rt.eq h.1 h.2.1 h.2.2.1 h.2.2.2

open Classical in
/-- How a route in the map reads. -/
noncomputable def rtElem (v : Value) : Option (DataW Unit × List MemPlace) := if h : ∃ r : Rt, v = r.val then some ((Classical.choose h).dat, []) else none
theorem rtElem_val (r : Rt) : rtElem r.val = some (r.dat, []) := by
  have h : ∃ r' : Rt, r.val = r'.val := ⟨r, rfl⟩
  unfold rtElem
  rw [dif_pos h, ← Rt.val_inj (Classical.choose_spec h)]
theorem rtElem_inv {v : Value} {z : DataW Unit × List MemPlace} (h : rtElem v = some z) : ∃ r : Rt, v = r.val ∧ z = (r.dat, []) := by
  by_cases hv : ∃ r : Rt, v = r.val
  · obtain ⟨r, rfl⟩ := hv
    rw [rtElem_val] at h
    exact ⟨r, rfl, (Option.some.inj h).symm⟩
  · unfold rtElem at h
    rw [dif_neg hv] at h
    cases h

def key (d b : Int) : Value := .agg #[.int .u32 d, .int .i64 b]
def klit (d b : Int) : Lit := .string (keyBytes [.int .u32 d, .int .i64 b])
theorem rt_laid : laidOutB Try.prog = true := by kernel_rfl
theorem rt_row : (62 : TypeId) < Try.prog.types.size := of_decide_eq_true (by kernel_rfl)
theorem rt_wide : (match Try.prog.underlying 62 with | some (.array _ _) | some (.struct _) => true | _ => false) = true := by kernel_rfl
theorem rtK : Keyed Try.prog 62 := Keyed.of_law (deep_law_laid rt_laid (m := 2) (by omega) rt_row (by kernel_rfl) rt_wide)
theorem rt_keyType : Try.prog.keyType 62 = true := by kernel_rfl
theorem rt_keyCells : Try.prog.cellsOf 62 = 2 := by kernel_rfl
theorem rt_keyF : ∃ (d : Nat) (f g : Field), Try.prog.types.size + 1 = d + 2 ∧ Try.prog.underlying 62 = some (.struct #[f, g]) ∧ (f.name != "_") = true ∧ (g.name != "_") = true ∧
    f.type = 31 ∧ f.offset = 0 ∧ g.type = 3 ∧ g.offset = 1 := ⟨_, _, _, rfl, Try.underlying62, by kernel_rfl, by kernel_rfl, rfl, rfl, rfl, rfl⟩
theorem keyOf_key {d b : Int} (hd : U32 d) (hb : I64 b) : keyOf Try.prog 62 (key d b) = some (klit d b) := by
  have h1 := hd.wf
  have h2 := hb.wf
  obtain ⟨n, f, g, hn, hu, a1, a2, e1, e2, e3, e4⟩ := rt_keyF
  have k1 : Try.prog.cellsOf 31 = 1 := by kernel_rfl
  have k2 : Try.prog.cellsOf 3 = 1 := by kernel_rfl
  have hfm : (key d b).formed Try.prog 62 = true := by
    simp [Value.formed, hu, rt_keyCells, key]
  have hl : Try.prog.keyLits (Try.prog.types.size + 1) 62 (key d b).cells.toList = some [.int .u32 d, .int .i64 b] := by
    rw [hn]
    unfold Program.keyLits
    rw [hu]
    simp [key, Value.cells, rt_keyCells, a1, a2, e1, e2, e3, e4, k1, k2, Program.keyLits, Try.underlying31, Try.underlying3, h1, h2]
  unfold keyOf
  rw [hu]
  simp only [rt_keyType, hfm, hl]
  rfl
theorem keyLits_one {q : IntKind} {n : Nat} {t : TypeId} {x : Value} {l : List Lit} (hu : Try.prog.underlying t = some (.int q)) (h : Try.prog.keyLits n t [x] = some l) : ∃ a, x = .int q a ∧ l = [.int q a] ∧ (Lit.int q a).wf = true := by
  cases n with
  | zero => cases h
  | succ n =>
    unfold Program.keyLits at h
    rw [hu] at h
    cases x <;> simp at h
    obtain ⟨⟨rfl, hw⟩, rfl⟩ := h
    exact ⟨_, rfl, rfl, hw⟩
theorem keyOf_inv {v : Value} {l : Lit} (h : keyOf Try.prog 62 v = some l) : ∃ d b, v = key d b ∧ l = klit d b ∧ U32 d ∧ I64 b := by
  obtain ⟨n, f, g, hn, hu, a1, a2, e1, e2, e3, e4⟩ := rt_keyF
  have k1 : Try.prog.cellsOf 31 = 1 := by kernel_rfl
  have k2 : Try.prog.cellsOf 3 = 1 := by kernel_rfl
  unfold keyOf at h
  rw [hu] at h
  simp only [rt_keyType, Bool.true_and] at h
  split at h
  · rename_i hfm
    rw [Option.map_eq_some_iff] at h
    obtain ⟨ls, hl, rfl⟩ := h
    rw [hn] at hl
    unfold Program.keyLits at hl
    rw [hu] at hl
    cases v with
    | agg cs =>
      obtain ⟨cl⟩ := cs
      simp [Value.cells, rt_keyCells, a1, a2, e1, e2, e3, e4, k1, k2] at hl
      obtain ⟨hz, hl⟩ := hl
      match cl, hz with
      | [x, y], _ =>
        simp [Option.bind_eq_some_iff] at hl
        obtain ⟨l1, h1, _, ⟨l2, h2, rfl⟩, rfl⟩ := hl
        obtain ⟨a, rfl, rfl, w1⟩ := keyLits_one Try.underlying31 h1
        obtain ⟨b, rfl, rfl, w2⟩ := keyLits_one Try.underlying3 h2
        exact ⟨a, b, rfl, rfl, U32.of w1, I64.of w2⟩
    | _ => simp [Value.formed, hu] at hfm
  · cases h
theorem klit_inj {d b d' b' : Int} (hd : U32 d) (hb : I64 b) (hd' : U32 d') (hb' : I64 b') (h : klit d b = klit d' b') : d = d' ∧ b = b' := by
  have h1 := keyOf_key hd hb
  have h2 := keyOf_key hd' hb'
  rw [← h] at h2
  have h3 := rtK.inj h1 h2
  simpa [key] using h3

/-- What a map reads as: a rising row of routes. -/
structure Reads (D : DataW Unit) (L : List Rt) : Prop where
  has : ∀ d b, U32 d → I64 b → Maps.has D (klit d b) = (look L d b).isSome
  at_ : ∀ d b r, U32 d → I64 b → look L d b = some r → ∀ z, D.atKey (klit d b) z = r.dat
  size : Maps.size D = L.length
theorem Reads.nil : Reads (.map []) [] := ⟨fun _ _ _ _ => rfl, fun _ _ _ _ _ h => (by cases h), rfl⟩
theorem klit_key (d b : Int) : WideAt.IsKeyLit (klit d b) := trivial
theorem Reads.put {D : DataW Unit} {L : List Rt} (h : Reads D L) (hD : Tidy D) (hs : Srt L) (r : Rt) (hr : r.In) : Reads (D.put (klit r.d r.b) r.dat) (putL L r) where
  has d b hd hb := by
    by_cases e : d = r.d ∧ b = r.b
    · obtain ⟨rfl, rfl⟩ := e
      rw [has_put_same hD.isMap (klit_key _ _), look_put_same hs]
      rfl
    · rw [has_put_other (fun k => e (klit_inj hd hb hr.d hr.b k)), h.has d b hd hb, look_put_other hs r (fun k => e ⟨k.1.symm, k.2.symm⟩)]
  at_ d b s hd hb hl z := by
    by_cases e : d = r.d ∧ b = r.b
    · obtain ⟨rfl, rfl⟩ := e
      rw [look_put_same hs] at hl
      cases hl
      exact atKey_put_same hD.isMap (klit_key _ _) _ _
    · rw [atKey_put_other (fun k => e (klit_inj hd hb hr.d hr.b k))]
      rw [look_put_other hs r (fun k => e ⟨k.1.symm, k.2.symm⟩)] at hl
      exact h.at_ d b s hd hb hl z
  size := by
    rw [size_put hD, h.has _ _ hr.d hr.b, h.size, length_put hs]
theorem Reads.del {D : DataW Unit} {L : List Rt} (h : Reads D L) (hD : Tidy D) (hs : Srt L) (d0 b0 : Int) (h0 : U32 d0) (h1 : I64 b0) : Reads (D.del (klit d0 b0)) (delL L d0 b0) where
  has d b hd hb := by
    by_cases e : d = d0 ∧ b = b0
    · obtain ⟨rfl, rfl⟩ := e
      rw [has_del_same, look_del_same]
      rfl
    · rw [has_del_other (fun k => e (klit_inj hd hb h0 h1 k)), h.has d b hd hb, look_del_other hs e]
  at_ d b s hd hb hl z := by
    by_cases e : d = d0 ∧ b = b0
    · obtain ⟨rfl, rfl⟩ := e
      rw [look_del_same] at hl
      cases hl
    · rw [atKey_del_other (fun k => e (klit_inj hd hb h0 h1 k))]
      rw [look_del_other hs e] at hl
      exact h.at_ d b s hd hb hl z
  size := by
    have a := size_del (k := klit d0 b0) hD
    have b := length_del hs d0 b0
    rw [h.has _ _ h0 h1, h.size] at a
    omega

/-- The struct at p holds the map b, which reads as the rising row L of right routes. -/
structure Tab (w : World) (p b : Nat) (L : List Rt) : Prop where
  cell : w.cell? ⟨p, 0, none⟩ = some (.map (some b))
  own : ∃ D : DataW Unit, w.ownsMap Try.prog 62 rtElem b L.length D ∧ Reads D L
  srt : Srt L
  right : ∀ r ∈ L, r.Right
  few : L.length ≤ 64

theorem ownsMap_size {w : World} {P : Program} {k : TypeId} {R : Value → Option (DataW Unit × List MemPlace)} {b n : Nat} {D : DataW Unit} (h : w.ownsMap P k R b n D) : w.ownsMap P k R b (Maps.size D) D := by
  obtain ⟨es, clock, hb, F, hs, rfl⟩ := h
  exact ⟨es, clock, hb, F, by simp [Maps.size, length_sorted], rfl⟩

section
variable {w : World} {p b : Nat} {L : List Rt}
theorem Tab.lt (h : Tab w p b L) : p < w.heap.size ∧ b < w.heap.size := by
  obtain ⟨D, h1, _⟩ := h.own
  exact ⟨World.block_lt_of_cell? w _ h.cell, h1.lt⟩
theorem Tab.kept {w' : World} {row : Option Nat} (h : Tab w p b L) (hg : w.grownBy w' row) (hb : some b ≠ row) (hp : some p ≠ row) : Tab w' p b L := by
  have hlt := h.lt
  obtain ⟨D, h1, h2⟩ := h.own
  refine ⟨?_, ⟨D, h1.kept hg hb, h2⟩, h.srt, h.right, h.few⟩
  rw [← h.cell]
  unfold World.cell?
  rw [hg.block p hlt.1 hp]
theorem Tab.below {w' : World} (h : Tab w p b L) (hb : Below w.heap.size w w') : Tab w' p b L :=
  h.kept (row := none) ⟨hb.os, hb.tape, hb.output, hb.size, fun i hi _ => hb.block i hi⟩ (by simp) (by simp)
theorem Tab.alloc (h : Tab w p b L) (o : Obj) : Tab (w.alloc o) p b L := h.kept (World.grownBy_alloc w o none) (by simp) (by simp)
theorem Tab.drewN (h : Tab w p b L) (n : Nat) : Tab (w.drewN n) p b L := ⟨h.cell, h.own, h.srt, h.right, h.few⟩
theorem rt_zero (W : World) : (zeroValue 33).run Try.prog W = .ok Rt.zero.val W := by kernel_rfl

/-- 'v, ok := m[key]'. -/
theorem Tab.asked (h : Tab w p b L) {d x : Int} (hd : U32 d) (hx : I64 x) :
    (Instr.lookup 56 (.map (some b)) (.agg #[.int .u32 d, .int .i64 x]) true).run Try.prog w = .ok (.tuple #[((look L d x).getD Rt.zero).val, .bool (look L d x).isSome]) w := by
  obtain ⟨D, h1, h2⟩ := h.own
  obtain ⟨v, ps, hr, hv⟩ := h1.look_ok rtK Try.underlying56 (rt_zero w) (rtElem_val Rt.zero) (keyOf_key hd hx)
  obtain ⟨r, rfl, hz⟩ := rtElem_inv hv
  have e : r = (look L d x).getD Rt.zero := by
    cases hl : look L d x with
    | some s =>
      rw [h2.at_ d x s hd hx hl] at hz
      exact (Rt.dat_inj (Prod.mk.inj hz).1).symm
    | none =>
      have hn : Maps.has D (klit d x) = false := by rw [h2.has d x hd hx, hl]; rfl
      rw [atKey_of_not_has hn] at hz
      exact (Rt.dat_inj (Prod.mk.inj hz).1).symm
  rw [h2.has d x hd hx, e] at hr
  exact hr
/-- 'm[key] = r'. -/
theorem Tab.store (h : Tab w p b L) {r : Rt} (hr : r.Right) (hroom : (putL L r).length ≤ 64) :
    ∃ w', (Instr.mapUpdate 56 (.map (some b)) (.agg #[.int .u32 r.d, .int .i64 r.b]) r.val).run Try.prog w = .ok () w' ∧ Tab w' p b (putL L r) ∧ w.mapTurned w' b := by
  obtain ⟨D, h1, h2⟩ := h.own
  obtain ⟨w', hrun, k1, k2⟩ := h1.store rtK Try.underlying56 (by have := h.few; unfold maxLen; omega) (keyOf_key hr.i.d hr.i.b) (rtElem_val r)
  have h3 := h2.put (h1.tidy rtK) h.srt r hr.i
  have hne : p ≠ b := fun e => by
    obtain ⟨es, clock, hb, _⟩ := h1
    have := h.cell
    rw [e] at this
    simp [World.cell?, hb] at this
  refine ⟨w', hrun, ⟨?_, ⟨_, ?_, h3⟩, srt_put h.srt r, ?_, hroom⟩, k2⟩
  · rw [← h.cell]
    unfold World.cell?
    rw [k2.grown.block p h.lt.1 (fun e => hne (Option.some.inj e))]
  · rw [← h3.size]
    exact ownsMap_size k1
  · intro s hs
    rcases (mem_put h.srt r s).1 hs with rfl | ⟨hs, _⟩
    · exact hr
    · exact h.right s hs
/-- 'delete(m, key)'. -/
theorem Tab.drop (h : Tab w p b L) {d x : Int} (hd : U32 d) (hx : I64 x) (ty : TypeId) :
    ∃ w', (Builtin.delete_ #[56, 62] ty #[.map (some b), .agg #[.int .u32 d, .int .i64 x]]).run Try.prog w = .ok (.tuple #[]) w' ∧ Tab w' p b (delL L d x) ∧ w.mapTurned w' b := by
  obtain ⟨D, h1, h2⟩ := h.own
  obtain ⟨w', hrun, k1, k2⟩ := h1.drop rtK Try.underlying56 (keyOf_key hd hx) ty
  have h3 := h2.del (h1.tidy rtK) h.srt d x hd hx
  have hne : p ≠ b := fun e => by
    obtain ⟨es, clock, hb, _⟩ := h1
    have := h.cell
    rw [e] at this
    simp [World.cell?, hb] at this
  refine ⟨w', hrun, ⟨?_, ⟨_, ?_, h3⟩, srt_del h.srt d x, fun s hs => h.right s ((mem_del d x s).1 hs).1, ?_⟩, k2⟩
  · rw [← h.cell]
    unfold World.cell?
    rw [k2.grown.block p h.lt.1 (fun e => hne (Option.some.inj e))]
  · rw [← h3.size]
    exact ownsMap_size k1
  · have := length_del h.srt d x
    have := h.few
    omega
/-- 'len(m)'. -/
theorem Tab.len (h : Tab w p b L) (ty : TypeId) : (Builtin.len_ #[56] ty #[.map (some b)]).run Try.prog w = .ok (.int .i64 (L.length : Int)) w := by
  obtain ⟨D, h1, h2⟩ := h.own
  rw [h1.len Try.underlying56 ty, h2.size]
end
end Go.Proofs.Ytimpellpfnmicaa
