/-
  What is proved: (cache.entry).age, isTooOld, isDue, (*cache.Cache).standing, Find, Len, New by contract.
  Conditions: the numbers fit their types.
-/
import Derived.Test.YtfeipeninmclkaaCaSorted
import Derived.Laws.Tables
import Derived.Laws.ResultCell
import Derived.Laws.CopyOwn
import Derived.Deep.RegionHeldLaw
import Derived.WalkLawsBesides
import Derived.WalkSpells
namespace Go.Proofs.Ytfeipeninmclkaa
open Go.RowKit

/-- An entry in a box. -/
def Raw.obj (r : Raw) : Obj := .cells #[.bool r.kn, .int .u8 r.m.a, .int .u8 r.m.b, .int .u8 r.m.c, .int .u8 r.m.d, .int .u8 r.m.e, .int .u8 r.m.f, .int .u64 r.t, .int .i64 r.tr, slv r.sl] 71
def rage (r : Raw) (now : Int) : Int := if now < r.t then 0 else now - r.t
def rold (r : Raw) (now : Int) : Bool := r.kn && decide (60 ≤ rage r now)
def rdue (r : Raw) (now : Int) : Bool := !r.kn && decide (2 ≤ rage r now)
theorem rage_u64 {r : Raw} {now : Int} (hr : U64 r.t) (hn : U64 now) : 0 ≤ rage r now ∧ rage r now < 18446744073709551616 := by
  unfold U64 at *
  unfold rage
  split <;> omega

/-- The box's cells. -/
structure RAt (w : World) (g : Nat) (r : Raw) : Prop where
  c0 : w.cell? ⟨g, 0, none⟩ = some (.bool r.kn)
  c1 : w.cell? ⟨g, 1, none⟩ = some (.int .u8 r.m.a)
  c2 : w.cell? ⟨g, 2, none⟩ = some (.int .u8 r.m.b)
  c3 : w.cell? ⟨g, 3, none⟩ = some (.int .u8 r.m.c)
  c4 : w.cell? ⟨g, 4, none⟩ = some (.int .u8 r.m.d)
  c5 : w.cell? ⟨g, 5, none⟩ = some (.int .u8 r.m.e)
  c6 : w.cell? ⟨g, 6, none⟩ = some (.int .u8 r.m.f)
  c7 : w.cell? ⟨g, 7, none⟩ = some (.int .u64 r.t)
  c8 : w.cell? ⟨g, 8, none⟩ = some (.int .i64 r.tr)
  c9 : w.cell? ⟨g, 9, none⟩ = some (slv r.sl)
theorem RAt.of {w : World} {g : Nat} {r : Raw} (h : w.heap[g]? = some r.obj) : RAt w g r := by
  unfold Raw.obj at h
  constructor <;> simp [World.cell?, h]
theorem RAt.new (w : World) (r : Raw) : RAt (w.alloc r.obj) w.heap.size r := RAt.of (heap_alloc_new w _)
theorem RAt.lt {w : World} {g : Nat} {r : Raw} (h : RAt w g r) : g < w.heap.size := World.block_lt_of_cell? w _ h.c0
theorem RAt.below {w w' : World} {g : Nat} {r : Raw} (h : RAt w g r) (hb : Below w.heap.size w w') : RAt w' g r := by
  have hl := h.lt
  have hc : ∀ {i v}, w.cell? ⟨g, i, none⟩ = some v → w'.cell? ⟨g, i, none⟩ = some v := fun hi => (hb.cell hl).trans hi
  exact ⟨hc h.c0, hc h.c1, hc h.c2, hc h.c3, hc h.c4, hc h.c5, hc h.c6, hc h.c7, hc h.c8, hc h.c9⟩
theorem RAt.drewN {w : World} {g : Nat} {r : Raw} (h : RAt w g r) (n : Nat) : RAt (w.drewN n) g r := ⟨h.c0, h.c1, h.c2, h.c3, h.c4, h.c5, h.c6, h.c7, h.c8, h.c9⟩
theorem below_al {w b : World} (h : Below w.heap.size w b) (o : Obj) : Below w.heap.size w (b.alloc o) := h.alloc h.size o
theorem below_dN {B : Nat} {a b : World} (h : Below B a b) (n : Nat) : Below B a (b.drewN n) := ⟨h.os, h.tape, h.output, h.size, h.block⟩

set_option maxHeartbeats 1000000 in
theorem age_any (r : Raw) (now : Int) (hr : U64 r.t) (hn : U64 now) (w : World) : Calls Try.prog 38 #[r.val, .int .u64 now] w fun e w' => e = .returned (.int .u64 (rage r now)) ∧ Below w.heap.size w w' := by
  have HB := Lib.hid ((Below.refl _ w).alloc (Nat.le_refl _) r.obj)
  have hc := (RAt.new w r).c7
  unfold U64 at hr hn
  obtain ⟨a, ha⟩ : ∃ a, rage r now = a := ⟨_, rfl⟩
  rw [ha]
  have Ha := Lib.hid ha
  clear ha
  obtain ⟨kn, ⟨a1, a2, a3, a4, a5, a6⟩, t, tr, sl⟩ := r
  unfold Raw.obj at HB hc
  unfold Raw.val
  simp only at hr HB hc ⊢
  generalize slv sl = S at HB hc ⊢
  by_cases hlt : now < t
  · have q1 : decide (now < t) = true := decide_eq_true hlt
    have HL := Lib.hid hlt
    clear hlt
    go_enter Try.func38, Try.ntmps38
    go_wp2_with fail
    go_ret
    refine ⟨?_, HB.out⟩
    rw [← Ha.out]
    have e := HL.out
    show Ending.returned (.int .u64 _) = Ending.returned (.int .u64 (if now < t then 0 else now - t))
    split
    all_goals first | rfl | omega
  · have q1 : decide (now < t) = false := decide_eq_false hlt
    have w1 : IntKind.u64.wrap (now - t) = now - t := by rw [IntKind.wrap_u64]; omega
    have HL := Lib.hid hlt
    clear hlt
    go_enter Try.func38, Try.ntmps38
    go_wp2_with fail
    go_ret
    refine ⟨?_, HB.out⟩
    rw [← Ha.out]
    have e := HL.out
    show Ending.returned (.int .u64 _) = Ending.returned (.int .u64 (if now < t then 0 else now - t))
    split
    all_goals first | rfl | omega

set_option maxRecDepth 100000 in
set_option maxHeartbeats 1000000 in
theorem tooOld_any (r : Raw) (now : Int) (hr : U64 r.t) (hn : U64 now) (w : World) : Calls Try.prog 32 #[r.val, .int .u64 now] w fun e w' => e = .returned (.bool (rold r now)) ∧ Below w.heap.size w w' := by
  have HB := Lib.hid ((Below.refl _ w).alloc (Nat.le_refl _) r.obj)
  obtain ⟨c0, c1, c2, c3, c4, c5, c6, c7, c8, c9⟩ := RAt.new w r
  have X := Lib.hid (fun W => age_any r now hr hn W)
  obtain ⟨a, ha⟩ : ∃ a, rage r now = a := ⟨_, rfl⟩
  have hu := rage_u64 hr hn
  rw [ha] at X hu
  obtain ⟨o, ho⟩ : ∃ o, rold r now = o := ⟨_, rfl⟩
  rw [ho]
  have Ho : Hid ((r.kn && decide (60 ≤ a)) = o) := Lib.hid (by rw [← ho, ← ha]; rfl)
  clear ha ho hr hn
  obtain ⟨kn, ⟨a1, a2, a3, a4, a5, a6⟩, t, tr, sl⟩ := r
  unfold Raw.obj at HB c0 c1 c2 c3 c4 c5 c6 c7 c8 c9
  unfold Raw.val at X ⊢
  simp only at HB X Ho c0 c1 c2 c3 c4 c5 c6 c7 c8 c9 ⊢
  generalize slv sl = S at HB X c0 c1 c2 c3 c4 c5 c6 c7 c8 c9 ⊢
  cases kn with
  | false =>
    obtain rfl : false = o := Ho.out
    go_enter Try.func32, Try.ntmps32
    go_wp2_with fail
    go_ret
    exact ⟨rfl, HB.out⟩
  | true =>
    obtain rfl : decide (60 ≤ a) = o := Ho.out
    go_enter Try.func32, Try.ntmps32
    go_wp2_with (go_at_call 38; (with_reducible refine (X.out _).mono ?_); rintro e w1 ⟨rfl, h1⟩; (have H1 := Lib.hid h1); clear h1)
    go_ret
    exact ⟨rfl, below_to HB.out H1.out (by simp)⟩
set_option maxRecDepth 100000 in
set_option maxHeartbeats 1000000 in
theorem isDue_any (r : Raw) (now : Int) (hr : U64 r.t) (hn : U64 now) (w : World) : Calls Try.prog 33 #[r.val, .int .u64 now] w fun e w' => e = .returned (.bool (rdue r now)) ∧ Below w.heap.size w w' := by
  have HB := Lib.hid ((Below.refl _ w).alloc (Nat.le_refl _) r.obj)
  obtain ⟨c0, c1, c2, c3, c4, c5, c6, c7, c8, c9⟩ := RAt.new w r
  have X := Lib.hid (fun W => age_any r now hr hn W)
  obtain ⟨a, ha⟩ : ∃ a, rage r now = a := ⟨_, rfl⟩
  have hu := rage_u64 hr hn
  rw [ha] at X hu
  obtain ⟨o, ho⟩ : ∃ o, rdue r now = o := ⟨_, rfl⟩
  rw [ho]
  have Ho : Hid ((!r.kn && decide (2 ≤ a)) = o) := Lib.hid (by rw [← ho, ← ha]; rfl)
  clear ha ho hr hn
  obtain ⟨kn, ⟨a1, a2, a3, a4, a5, a6⟩, t, tr, sl⟩ := r
  unfold Raw.obj at HB c0 c1 c2 c3 c4 c5 c6 c7 c8 c9
  unfold Raw.val at X ⊢
  simp only at HB X Ho c0 c1 c2 c3 c4 c5 c6 c7 c8 c9 ⊢
  generalize slv sl = S at HB X c0 c1 c2 c3 c4 c5 c6 c7 c8 c9 ⊢
  cases kn with
  | true =>
    obtain rfl : false = o := Ho.out
    go_enter Try.func33, Try.ntmps33
    go_wp2_with fail
    go_ret
    exact ⟨rfl, HB.out⟩
  | false =>
    obtain rfl : decide (2 ≤ a) = o := Ho.out
    go_enter Try.func33, Try.ntmps33
    go_wp2_with (go_at_call 38; (with_reducible refine (X.out _).mono ?_); rintro e w1 ⟨rfl, h1⟩; (have H1 := Lib.hid h1); clear h1)
    go_ret
    exact ⟨rfl, below_to HB.out H1.out (by simp)⟩
end Go.Proofs.Ytfeipeninmclkaa
