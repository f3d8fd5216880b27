/-
  What is proved: (*route.Table).Add and Del by contract: the answer, and what the table's map holds behind them.
  Conditions: the route's numbers fit their types.
-/
import Derived.Test.YtimpellpfnmicaaRtRight
namespace Go.Proofs.Ytimpellpfnmicaa
open Go.RowKit

theorem grown_of_below {w w' : World} (h : Below w.heap.size w w') (row : Option Nat) : w.grownBy w' row := ⟨h.os, h.tape, h.output, h.size, fun i hi _ => h.block i hi⟩
theorem grown_trans {a b c : World} {row : Option Nat} (h : a.grownBy b row) (k : b.grownBy c row) : a.grownBy c row := h.andThen k (fun _ e => .inr e)
theorem grown_dN {a b : World} {row : Option Nat} (h : a.grownBy b row) (n : Nat) : a.grownBy (b.drewN n) row := ⟨h.os, h.tape, h.output, h.size, h.block⟩

theorem below_al {w b : World} (h : Below w.heap.size w b) (o : Obj) : Below w.heap.size w (b.alloc o) := h.alloc h.size o
/-- A cell is no map's: it stays while a map is written. -/
theorem turned_cell {w w' : World} {b : Nat} (h : w.mapTurned w' b) {a : Addr} {v : Value} (hc : w.cell? a = some v) : w'.cell? a = some v := by
  have hlt := World.block_lt_of_cell? w _ hc
  have hne : a.block ≠ b := fun e => by
    obtain ⟨es, clock, es', clock', hb, _⟩ := h
    rw [← e] at hb
    unfold World.cell? at hc
    rw [hb] at hc
    cases hc
  rw [← hc]
  unfold World.cell?
  rw [h.grown.block a.block hlt (fun e => hne (Option.some.inj e))]
def fullB (L : List Rt) (r : Rt) : Bool := (!(look L r.d r.b).isSome) && decide (64 ≤ L.length)
def addCode (L : List Rt) (r : Rt) : Int := if r.ok then (if fullB L r then 5 else 0) else 1
def addL (L : List Rt) (r : Rt) : List Rt := if r.ok then (if fullB L r then L else putL L r) else L

/-- A key in a box. -/
structure KyAt (w : World) (g : Nat) (d b : Int) : Prop where
  c0 : w.cell? ⟨g, 0, none⟩ = some (.int .u32 d)
  c1 : w.cell? ⟨g, 1, none⟩ = some (.int .i64 b)
def kyObj (d b : Int) : Obj := .cells #[.int .u32 d, .int .i64 b] 62
theorem KyAt.of_heap {w : World} {g : Nat} {d b : Int} (h : w.heap[g]? = some (kyObj d b)) : KyAt w g d b := by
  unfold kyObj at h
  constructor <;> simp [World.cell?, h]
theorem KyAt.new (w : World) (d b : Int) : KyAt (w.alloc (kyObj d b)) w.heap.size d b := KyAt.of_heap (heap_alloc_new w _)
theorem KyAt.lt {w : World} {g : Nat} {d b : Int} (h : KyAt w g d b) : g < w.heap.size := World.block_lt_of_cell? w _ h.c0
theorem KyAt.below {w w' : World} {g : Nat} {d b : Int} (h : KyAt w g d b) (hb : Below w.heap.size w w') : KyAt w' g d b :=
  ⟨(hb.cell h.lt).trans h.c0, (hb.cell h.lt).trans h.c1⟩

set_option maxHeartbeats 1000000 in
theorem add_bad (r : Rt) (hr : r.In) (hok : r.ok = false) (p : Value) (w : World) :
    Calls Try.prog 20 #[p, r.val] w fun e w' => e = .returned (.int .i64 1) ∧ Below w.heap.size w w' := by
  have HB := Lib.hid ((Below.refl _ w).alloc (Nat.le_refl _) r.obj)
  have hA := RtAt.new w r
  have hR := Lib.hid (fun W => right_any r hr W)
  rw [hok] at hR
  clear hr hok
  obtain ⟨d, b, v, o⟩ := r
  obtain ⟨c0, c1, c2, c3⟩ := hA
  unfold Rt.val at hR ⊢
  unfold Rt.obj at c0 c1 c2 c3 HB
  simp only at c0 c1 c2 c3 HB hR ⊢
  go_enter Try.func20, Try.ntmps20
  go_wp2_with (go_at_call 27; refine (hR.out _).mono ?_; rintro e w1 ⟨rfl, hb1⟩)
  go_ret
  exact ⟨rfl, below_to HB.out hb1 (by simp)⟩

set_option maxRecDepth 100000 in
set_option maxHeartbeats 2000000 in
theorem add_ok (L : List Rt) (r : Rt) (hr : r.In) (hok : r.ok = true) (p b : Nat) (w : World) (h : Tab w p b L) :
    Calls Try.prog 20 #[.pointer (some ⟨p, 0, none⟩), r.val] w fun e w' => e = .returned (.int .i64 (if fullB L r then 5 else 0)) ∧ Tab w' p b (if fullB L r then L else putL L r) ∧ w.grownBy w' (some b) := by
  obtain ⟨cc, hcc⟩ : ∃ c : Int, (if fullB L r then (5 : Int) else 0) = c := ⟨_, rfl⟩
  obtain ⟨L', hL'⟩ : ∃ l : List Rt, (if fullB L r then L else putL L r) = l := ⟨_, rfl⟩
  rw [hcc, hL']
  have Hc := Lib.hid hcc
  have HL := Lib.hid hL'
  clear hcc hL'
  have HB := Lib.hid ((Below.refl _ w).alloc (Nat.le_refl _) r.obj)
  have HA := Lib.hid (RtAt.new w r)
  have HR := Lib.hid (fun W => right_any r hr W)
  have HT := Lib.hid h
  have HG := Lib.hid ((Rt.ok_iff hr).1 hok)
  rw [hok] at HR
  clear hok h
  obtain ⟨c0, c1, c2, c3⟩ := HA.out
  unfold Rt.obj at c0 c1 c2 c3 HB HA
  unfold Rt.val at HR ⊢
  go_enter Try.func20, Try.ntmps20
  go_upto_region 3 with (go_at_call 27; refine (HR.out _).mono ?_; rintro e w1 ⟨rfl, hb1⟩; (have a1 := Lib.hid hb1); clear hb1)
  have hB1 := Lib.hid (below_to HB.out a1.out (by simp))
  obtain ⟨c0, c1, c2, c3⟩ := HA.out.below a1.out
  have hp1 := (HT.out.below hB1.out).cell
  have hA2 := Lib.hid ((HA.out.below a1.out).below ((Below.refl _ w1).alloc (Nat.le_refl _) (kyObj r.d r.b)))
  have hK2 := Lib.hid (KyAt.new w1 r.d r.b)
  have hB2 := Lib.hid (hB1.out.alloc hB1.out.size (kyObj r.d r.b))
  unfold kyObj at hA2 hK2 hB2
  go_upto_region 4 with fail
  generalize w1.alloc (Obj.cells #[Value.int IntKind.u32 r.d, Value.int IntKind.i64 r.b] 62) = w2 at hA2 hK2 hB2 ⊢
  clear c0 c1 c2 c3 hp1
  generalize w1.heap.size = K at hK2 ⊢
  generalize w.heap.size = G at hA2 ⊢
  obtain ⟨q, hq⟩ : ∃ q : Rt, (look L r.d r.b).getD Rt.zero = q := ⟨_, rfl⟩
  obtain ⟨is, his⟩ : ∃ is : Bool, (look L r.d r.b).isSome = is := ⟨_, rfl⟩
  have KS : Hid (∀ W', Below w2.heap.size w2 W' → W'.cell? ⟨p, 0, none⟩ = some (.map (some b)) ∧ W'.cell? ⟨K, 0, none⟩ = some (.int .u32 r.d) ∧ W'.cell? ⟨K, 1, none⟩ = some (.int .i64 r.b) ∧ (Instr.lookup 56 (.map (some b)) (.agg #[.int .u32 r.d, .int .i64 r.b]) true).run Try.prog W' = .ok (.tuple #[.agg #[.int .u32 q.d, .int .i64 q.b, .int .u32 q.v, .int .i64 q.o], .bool is]) W') := fun W' hW => by
    have t := (HT.out.below hB2.out).below hW
    have k := hK2.out.below hW
    have l := t.asked HG.out.i.d HG.out.i.b
    rw [hq, his] at l
    exact ⟨t.cell, k.c0, k.c1, l⟩
  have Hq := Lib.hid hq
  have His := Lib.hid his
  clear hq his
  go_region_held_law (fun W' => W'.cell? ⟨p, 0, none⟩ = some (.map (some b)) ∧ W'.cell? ⟨K, 0, none⟩ = some (.int .u32 r.d) ∧ W'.cell? ⟨K, 1, none⟩ = some (.int .i64 r.b) ∧ (Instr.lookup 56 (.map (some b)) (.agg #[.int .u32 r.d, .int .i64 r.b]) true).run Try.prog W' = .ok (.tuple #[.agg #[.int .u32 q.d, .int .i64 q.b, .int .u32 q.v, .int .i64 q.o], .bool is]) W')
    (first | assumption | exact KS.out _ (below_dN (Below.refl _ w2) 1) | exact KS.out _ (below_al (below_dN (Below.refl _ w2) 1) _) | exact KS.out _ (Below.refl _ w2))
    (fail)
  all_goals
    clear KS
    have hB3 := Lib.hid (below_dN (hB2.out.alloc hB2.out.size (Obj.cells #[Value.int IntKind.u32 q.d, Value.int IntKind.i64 q.b, Value.int IntKind.u32 q.v, Value.int IntKind.i64 q.o] 33)) 1)
    have hT3 := Lib.hid (HT.out.below hB3.out)
    have hA3 := Lib.hid (hA2.out.below (below_dN ((Below.refl _ w2).alloc (Nat.le_refl _) (Obj.cells #[Value.int IntKind.u32 q.d, Value.int IntKind.i64 q.b, Value.int IntKind.u32 q.v, Value.int IntKind.i64 q.o] 33)) 1))
    have hK3 := Lib.hid (hK2.out.below (below_dN ((Below.refl _ w2).alloc (Nat.le_refl _) (Obj.cells #[Value.int IntKind.u32 q.d, Value.int IntKind.i64 q.b, Value.int IntKind.u32 q.v, Value.int IntKind.i64 q.o] 33)) 1))
    change Hid (Below _ _ (World.drew _)) at hB3
    change Hid (Tab (World.drew _) _ _ _) at hT3
    change Hid (RtAt (World.drew _) _ _) at hA3
    change Hid (KyAt (World.drew _) _ _ _) at hK3
    generalize (w2.alloc (Obj.cells #[Value.int IntKind.u32 q.d, Value.int IntKind.i64 q.b, Value.int IntKind.u32 q.v, Value.int IntKind.i64 q.o] 33)).drew = w3 at hB3 hT3 hA3 hK3 ⊢
    generalize w2.heap.size = X
    clear hB2 hA2 hK2 hB1 HR HA HB
    have hp := hT3.out.cell
    have hl := hT3.out.len 3
    obtain ⟨c0, c1, c2, c3⟩ := hA3.out
    obtain ⟨k0, k1⟩ := hK3.out
    cases is with
    | true =>
      have hf : Hid (fullB L r = false) := Lib.hid (by unfold fullB; rw [His.out]; rfl)
      obtain ⟨w4, hr4, hT4, hm4⟩ := (hT3.out.drewN 1).store HG.out (by rw [length_put hT3.out.srt, His.out]; exact hT3.out.few)
      have HT4 := Lib.hid hT4
      have HM4 := Lib.hid hm4
      clear hT4 hm4
      unfold Rt.val at hr4
      change Sem.run _ _ (World.drew w3) = _ at hr4
      go_upto_region 7 with fail
      go_region_held_law (fun W' => W'.cell? ⟨p, 0, none⟩ = some (.map (some b)) ∧ W'.cell? ⟨K, 0, none⟩ = some (.int .u32 r.d) ∧ W'.cell? ⟨K, 1, none⟩ = some (.int .i64 r.b) ∧ W'.cell? ⟨G, 0, none⟩ = some (.int .u32 r.d) ∧ W'.cell? ⟨G, 1, none⟩ = some (.int .i64 r.b) ∧ W'.cell? ⟨G, 2, none⟩ = some (.int .u32 r.v) ∧ W'.cell? ⟨G, 3, none⟩ = some (.int .i64 r.o))
        (first | assumption | exact ⟨hp, k0, k1, c0, c1, c2, c3⟩ | exact ⟨HT4.out.cell, turned_cell HM4.out k0, turned_cell HM4.out k1, turned_cell HM4.out c0, turned_cell HM4.out c1, turned_cell HM4.out c2, turned_cell HM4.out c3⟩)
        (fail)
      all_goals
        go_wp2_with fail
        go_ret
        have hc := Hc.out
        have hl' := HL.out
        rw [hf.out] at hc hl'
        subst hc hl'
        exact ⟨rfl, HT4.out, grown_trans (grown_of_below (below_dN hB3.out 1) _) HM4.out.grown⟩
    | false =>
      by_cases hfew : 64 ≤ L.length
      · have hf : Hid (fullB L r = true) := Lib.hid (by unfold fullB; rw [His.out]; simp [hfew])
        have hd : decide (64 ≤ (L.length : Int)) = true := decide_eq_true (by omega)
        go_wp2_with fail
        go_ret
        have hc := Hc.out
        have hl' := HL.out
        rw [hf.out] at hc hl'
        subst hc hl'
        exact ⟨rfl, hT3.out, grown_of_below hB3.out _⟩
      · have hf : Hid (fullB L r = false) := Lib.hid (by unfold fullB; rw [His.out]; simp [hfew])
        have hd : decide (64 ≤ (L.length : Int)) = false := decide_eq_false (by omega)
        obtain ⟨w4, hr4, hT4, hm4⟩ := (hT3.out.drewN 1).store HG.out (by rw [length_put hT3.out.srt, His.out]; show L.length + 1 ≤ 64; omega)
        have HT4 := Lib.hid hT4
        have HM4 := Lib.hid hm4
        clear hT4 hm4
        unfold Rt.val at hr4
        change Sem.run _ _ (World.drew w3) = _ at hr4
        go_upto_region 7 with fail
        go_region_held_law (fun W' => W'.cell? ⟨p, 0, none⟩ = some (.map (some b)) ∧ W'.cell? ⟨K, 0, none⟩ = some (.int .u32 r.d) ∧ W'.cell? ⟨K, 1, none⟩ = some (.int .i64 r.b) ∧ W'.cell? ⟨G, 0, none⟩ = some (.int .u32 r.d) ∧ W'.cell? ⟨G, 1, none⟩ = some (.int .i64 r.b) ∧ W'.cell? ⟨G, 2, none⟩ = some (.int .u32 r.v) ∧ W'.cell? ⟨G, 3, none⟩ = some (.int .i64 r.o))
          (first | assumption | exact ⟨hp, k0, k1, c0, c1, c2, c3⟩ | exact ⟨HT4.out.cell, turned_cell HM4.out k0, turned_cell HM4.out k1, turned_cell HM4.out c0, turned_cell HM4.out c1, turned_cell HM4.out c2, turned_cell HM4.out c3⟩)
          (fail)
        all_goals
          go_wp2_with fail
          go_ret
          have hc := Hc.out
          have hl' := HL.out
          rw [hf.out] at hc hl'
          subst hc hl'
          exact ⟨rfl, HT4.out, grown_trans (grown_of_below (below_dN hB3.out 1) _) HM4.out.grown⟩

theorem add_any (L : List Rt) (r : Rt) (hr : r.In) (p b : Nat) (w : World) (h : Tab w p b L) :
    Calls Try.prog 20 #[.pointer (some ⟨p, 0, none⟩), r.val] w fun e w' => e = .returned (.int .i64 (addCode L r)) ∧ Tab w' p b (addL L r) ∧ w.grownBy w' (some b) := by
  unfold addCode addL
  cases hok : r.ok with
  | true => exact add_ok L r hr hok p b w h
  | false => exact (add_bad r hr hok _ w).mono fun e w' ⟨h1, h2⟩ => ⟨h1, h.below h2, grown_of_below h2 _⟩
end Go.Proofs.Ytimpellpfnmicaa
