/-
  What is proved: the law EtherGroups answers true for any addresses, and leaves all older memory as it was.
  Conditions: errors.errorType holds the handle of the type error; api.All holds six times 255.
-/
import Derived.Test.YtkpncnbgdammaaaDoorEShown
import Derived.Deep.RegionLaw
import Derived.Deep.DeepCutAuto
import Derived.Laws.BitsAllLaws
namespace Go.Proofs.YtkpncnbgdammaaaDoor
open Go.RowKit

theorem M6.free {W : World} {g : Nat} {m : M6} (h : W.heap[g]? = some m.obj) (i : Nat) : W.frozen? ⟨g, i, none⟩ = false := by
  unfold M6.obj at h
  simp [World.frozen?, h]
theorem xor_byte (a b : UInt8) : ∃ z : UInt8, bits .xor .u8 (a.toNat : Int) (b.toNat : Int) = (z.toNat : Int) :=
  ⟨a ^^^ b, by rw [u8_xor_nat _ _ a.toNat_lt b.toNat_lt]; simp⟩
theorem M6.set {W : World} {g : Nat} {m : M6} (h : W.heap[g]? = some m.obj) (k : Nat) (hk : k < 6) (z : UInt8) : ∃ m' : M6, (W.setCell ⟨g, k, none⟩ (.int .u8 z.toNat)).heap[g]? = some m'.obj := by
  have key : (W.setCell ⟨g, k, none⟩ (.int .u8 z.toNat)).heap[g]? = (W.heap[g]?).map fun
      | .cells cs t fr => .cells (cs.set! k (.int .u8 z.toNat)) t fr
      | o => o := by
    unfold World.setCell
    simp only [Array.getElem?_modify, if_true]
    cases W.heap[g]? with
    | none => rfl
    | some o => cases o <;> rfl
  rw [key, h]
  obtain ⟨a, b, c, d, e, f⟩ := m
  match k, hk with
  | 0, _ => exact ⟨⟨z, b, c, d, e, f⟩, rfl⟩
  | 1, _ => exact ⟨⟨a, z, c, d, e, f⟩, rfl⟩
  | 2, _ => exact ⟨⟨a, b, z, d, e, f⟩, rfl⟩
  | 3, _ => exact ⟨⟨a, b, c, z, e, f⟩, rfl⟩
  | 4, _ => exact ⟨⟨a, b, c, d, z, f⟩, rfl⟩
  | 5, _ => exact ⟨⟨a, b, c, d, e, z⟩, rfl⟩
theorem M6.set0 {W : World} {g : Nat} {m : M6} (h : W.heap[g]? = some m.obj) (z : UInt8) : (W.setCell ⟨g, 0, none⟩ (.int .u8 z.toNat)).heap[g]? = some (M6.obj ⟨z, m.b, m.c, m.d, m.e, m.f⟩) := by
  have key : (W.setCell ⟨g, 0, none⟩ (.int .u8 z.toNat)).heap[g]? = (W.heap[g]?).map fun
      | .cells cs t fr => .cells (cs.set! 0 (.int .u8 z.toNat)) t fr
      | o => o := by
    unfold World.setCell
    simp only [Array.getElem?_modify, if_true]
    cases W.heap[g]? with
    | none => rfl
    | some o => cases o <;> rfl
  rw [key, h]
  rfl
theorem M6.at {W : World} {g : Nat} {m : M6} (h : W.heap[g]? = some m.obj) (k : Nat) (hk : k < 6) : ∃ u : UInt8, W.cell? ⟨g, k, none⟩ = some (.int .u8 u.toNat) := by
  obtain ⟨h0, h1, h2, h3, h4, h5⟩ := M6.cells h
  match k, hk with
  | 0, _ => exact ⟨_, h0⟩
  | 1, _ => exact ⟨_, h1⟩
  | 2, _ => exact ⟨_, h2⟩
  | 3, _ => exact ⟨_, h3⟩
  | 4, _ => exact ⟨_, h4⟩
  | 5, _ => exact ⟨_, h5⟩
/-- At the head of the loop's rounds: the new address is any. -/
def GRel (w1 : World) (i : Value) (wr : World) : Prop := ∃ (k : Nat) (mx : M6), k ≤ 6 ∧ i = .int .i64 k ∧ wr.heap[w1.heap.size]? = some mx.obj ∧ Below w1.heap.size w1 wr

theorem Group_b (n : Int) (p : Bool) (h0 : 0 ≤ n) (h1 : n < 256) (hp : (n % 2 == 1) = p) (b c d e f : Int) (w : World) :
    Calls Tryd.prog 16 #[.agg #[.int .u8 n, .int .u8 b, .int .u8 c, .int .u8 d, .int .u8 e, .int .u8 f]] w fun e w' => e = .returned (.bool p) ∧ Below w.heap.size w w' := by
  obtain ⟨m, rfl⟩ := Int.eq_ofNat_of_zero_le h0
  have ha := and_one m (by omega)
  have HP := Lib.hid hp
  clear h0 h1 hp
  go_enter Tryd.func16, Tryd.ntmps16
  go_wp2_with fail
  go_ret
  refine ⟨?_, (Below.refl _ _).alloc (Nat.le_refl _) _⟩
  show Ending.returned (.bool ((m : Int) % 2 == 1)) = _
  rw [show ((m : Int) % 2 == 1) = p from HP.out]
/-- What the last test looks at. -/
structure GSt (gx gm gy : Nat) (x m y : M6) (W : World) : Prop where
  x : W.heap[gx]? = some x.obj
  m : W.heap[gm]? = some m.obj
  y : W.heap[gy]? = some y.obj
  all : AllAt W
theorem GSt.below {gx gm gy : Nat} {x m y : M6} {W W' : World} (h : GSt gx gm gy x m y W) (hb : Below W.heap.size W W') : GSt gx gm gy x m y W' :=
  ⟨(hb.block _ (Array.getElem?_eq_some_iff.1 h.x).1).trans h.x, (hb.block _ (Array.getElem?_eq_some_iff.1 h.m).1).trans h.m, (hb.block _ (Array.getElem?_eq_some_iff.1 h.y).1).trans h.y, h.all.below hb⟩
theorem GSt.cells {gx gm gy : Nat} {x m y : M6} {W : World} (h : GSt gx gm gy x m y W) : 
    (W.cell? ⟨gx, 0, none⟩ = some (.int .u8 x.a.toNat) ∧ W.cell? ⟨gx, 1, none⟩ = some (.int .u8 x.b.toNat) ∧ W.cell? ⟨gx, 2, none⟩ = some (.int .u8 x.c.toNat) ∧ W.cell? ⟨gx, 3, none⟩ = some (.int .u8 x.d.toNat) ∧ W.cell? ⟨gx, 4, none⟩ = some (.int .u8 x.e.toNat) ∧ W.cell? ⟨gx, 5, none⟩ = some (.int .u8 x.f.toNat)) ∧
    (W.cell? ⟨gm, 0, none⟩ = some (.int .u8 m.a.toNat) ∧ W.cell? ⟨gm, 1, none⟩ = some (.int .u8 m.b.toNat) ∧ W.cell? ⟨gm, 2, none⟩ = some (.int .u8 m.c.toNat) ∧ W.cell? ⟨gm, 3, none⟩ = some (.int .u8 m.d.toNat) ∧ W.cell? ⟨gm, 4, none⟩ = some (.int .u8 m.e.toNat) ∧ W.cell? ⟨gm, 5, none⟩ = some (.int .u8 m.f.toNat)) ∧
    (W.cell? ⟨gy, 0, none⟩ = some (.int .u8 y.a.toNat) ∧ W.cell? ⟨gy, 1, none⟩ = some (.int .u8 y.b.toNat) ∧ W.cell? ⟨gy, 2, none⟩ = some (.int .u8 y.c.toNat) ∧ W.cell? ⟨gy, 3, none⟩ = some (.int .u8 y.d.toNat) ∧ W.cell? ⟨gy, 4, none⟩ = some (.int .u8 y.e.toNat) ∧ W.cell? ⟨gy, 5, none⟩ = some (.int .u8 y.f.toNat)) :=
  ⟨M6.cells h.x, M6.cells h.m, M6.cells h.y⟩
set_option maxRecDepth 100000 in
theorem and254 : ∀ a : Fin 256, (a.val &&& 254) % 2 = 0 ∧ (a.val &&& 254) ≤ 254 := by decide
set_option maxRecDepth 100000 in
theorem xor1 : ∀ a : Fin 256, (a.val ^^^ 1) % 2 = 1 - a.val % 2 ∧ (a.val ^^^ 1) < 256 := by decide
theorem zx_any (a m : UInt8) : ∃ z : UInt8, (bits .and .u8 (a.toNat : Int) 254 + (m.toNat : Int) % 2) % 256 = (z.toNat : Int) ∧ z.toNat % 2 = m.toNat % 2 := by
  obtain ⟨h1, h2⟩ := and254 ⟨a.toNat, a.toNat_lt⟩
  have e : bits .and .u8 (a.toNat : Int) 254 = ((a.toNat &&& 254 : Nat) : Int) := u8_and_nat a.toNat 254 a.toNat_lt (by omega)
  rw [e]
  simp only at h1 h2
  generalize a.toNat &&& 254 = q at *
  refine ⟨UInt8.ofNat (q + m.toNat % 2), ?_, ?_⟩ <;> (rw [ofNat_lt]; omega)
theorem zy_any (a : UInt8) : ∃ z : UInt8, bits .xor .u8 (a.toNat : Int) 1 = (z.toNat : Int) ∧ z.toNat % 2 = 1 - a.toNat % 2 := by
  obtain ⟨h1, h2⟩ := xor1 ⟨a.toNat, a.toNat_lt⟩
  have e : bits .xor .u8 (a.toNat : Int) 1 = ((a.toNat ^^^ 1 : Nat) : Int) := u8_xor_nat a.toNat 1 a.toNat_lt (by omega)
  rw [e]
  simp only at h1 h2
  generalize a.toNat ^^^ 1 = q at *
  refine ⟨UInt8.ofNat q, ?_, ?_⟩ <;> (rw [ofNat_lt]; omega)

theorem M6.val_lit (m : M6) : m.val = .agg #[.int .u8 m.a.toNat, .int .u8 m.b.toNat, .int .u8 m.c.toNat, .int .u8 m.d.toNat, .int .u8 m.e.toNat, .int .u8 m.f.toNat] := rfl
set_option maxRecDepth 100000 in
set_option maxHeartbeats 4000000 in
theorem groups_any (m0 m1 : M6) (w : World) (hg : Hdl w) (ha : AllAt w) :
    Calls Tryd.prog 8 #[m0.val, m1.val] w fun e w' => e = .returned (.bool true) ∧ Below w.heap.size w w' := by
  have hb0 : Below w.heap.size w ((w.alloc m0.obj).alloc m1.obj) := below_al (below_al (Below.refl _ _) _) _
  have HS := Lib.hid (shown_any _ (hg.below hb0) (ha.below hb0))
  have HB0 := Lib.hid hb0
  have HG := Lib.hid hg
  have HA := Lib.hid ha
  clear hg ha hb0
  rw [M6.val_lit, M6.val_lit]
  go_enter Tryd.func8, Tryd.ntmps8
  go_wp2_with fail
  refine HS.out.mono ?_
  rintro e w1 ⟨rfl, hb1⟩
  have hs : w.heap.size + 1 < w1.heap.size := by have := hb1.size; simp at this; omega
  have hm0 : w1.heap[w.heap.size]? = some m0.obj := (hb1.block _ (by simp; omega)).trans (heap_alloc2_old w _ _)
  have hm1 : w1.heap[w.heap.size + 1]? = some m1.obj := (hb1.block _ (by simp)).trans (by have := heap_alloc_new (w.alloc m0.obj) m1.obj; simpa using this)
  have HB1 := Lib.hid (below_to HB0.out hb1 HB0.out.size)
  obtain ⟨c0, c1, c2, c3, c4, c5⟩ := M6.cells hm0
  have HM0 := Lib.hid hm0
  have HM1 := Lib.hid hm1
  clear HS hb1 HB0 hm0 hm1
  go_wp2_with fail
  go_loopw [7] (fun i wr => GRel w1 i wr) (fun i _ => 6 - (intOf i).toNat)
  case atStart => exact ⟨0, m0, by omega, rfl, heap_alloc_new w1 _, below_al (Below.refl _ _) _⟩
  case round =>
    obtain ⟨k, mx, hk, rfl, hx, hb⟩ := hrel
    clear c0 c1 c2 c3 c4 c5
    have HX := Lib.hid hx
    have HB := Lib.hid hb
    have hm0 := (hb.block _ (show w.heap.size < w1.heap.size by omega)).trans HM0.out
    have hm1 := (hb.block _ hs).trans HM1.out
    by_cases hlt : k < 6
    · obtain ⟨u, hu⟩ := M6.at hx k hlt
      obtain ⟨v, hv⟩ := M6.at hm1 k hlt
      have hz := M6.free hx k
      obtain ⟨z, hzz⟩ := xor_byte u v
      clear hx hb hm0 hm1
      go_wp2_with fail
      go_region
      all_goals (go_wp2_with fail)
      all_goals
        go_roundw
        case rel =>
          obtain ⟨m', hm'⟩ := M6.set HX.out k hlt z
          refine ⟨k + 1, m', by omega, by go_num, hm', ?_⟩
          exact (Fr.set (Fr.drewN (Fr.of_below (p := fun a => a.block = w1.heap.size) HB.out) 1) ⟨w1.heap.size, k, none⟩ (.int .u8 z.toNat) rfl).below (Nat.le_refl _) (fun x hx => by omega)
        case measure => simp [intOf]; omega
    · obtain ⟨x0, x1, x2, x3, x4, x5⟩ := M6.cells hx
      obtain ⟨c0, c1, c2, c3, c4, c5⟩ := M6.cells hm0
      have hz := M6.free hx 0
      have hsz : w.heap.size < w1.heap.size := by omega
      have hwz : w1.heap.size < wr.heap.size := (Array.getElem?_eq_some_iff.1 hx).1
      clear hx hb hm0 hm1
      go_wp2_with fail
      clear x0 x1 x2 x3 x4 x5 c0 c1 c2 c3 c4 c5 hz
      obtain ⟨zx, ezx, pzx⟩ := zx_any mx.a m0.a
      obtain ⟨zy, ezy, pzy⟩ := zy_any m0.a
      simp only [ezx, ezy]
      clear ezx ezy
      have bs : Below w1.heap.size w1 ((wr.setCell ⟨w1.heap.size, 0, none⟩ (.int .u8 zx.toNat)).alloc (M6.obj ⟨zy, m0.b, m0.c, m0.d, m0.e, m0.f⟩)) :=
        ((Fr.set (Fr.of_below (p := fun a => a.block = w1.heap.size) HB.out) ⟨w1.heap.size, 0, none⟩ (.int .u8 zx.toNat) rfl).alloc _).below (Nat.le_refl _) (fun x hx => by omega)
      have S : Hid (GSt w1.heap.size w.heap.size wr.heap.size ⟨zx, mx.b, mx.c, mx.d, mx.e, mx.f⟩ m0 ⟨zy, m0.b, m0.c, m0.d, m0.e, m0.f⟩ ((wr.setCell ⟨w1.heap.size, 0, none⟩ (.int .u8 zx.toNat)).alloc (M6.obj ⟨zy, m0.b, m0.c, m0.d, m0.e, m0.f⟩)).drew) := by
        refine ⟨?_, ?_, ?_, ?_⟩
        · refine Eq.trans ?_ (M6.set0 HX.out zx)
          exact heap_alloc_old _ _ (by simpa using hwz)
        · exact (bs.block _ hsz).trans HM0.out
        · have := heap_alloc_new (wr.setCell ⟨w1.heap.size, 0, none⟩ (.int .u8 zx.toNat)) (M6.obj ⟨zy, m0.b, m0.c, m0.d, m0.e, m0.f⟩)
          rw [World.size_setCell] at this
          exact this
        · exact ((HA.out.below HB1.out).below bs).below (below_drew _)
      have FB := Lib.hid (below_to HB1.out bs HB1.out.size)
      clear bs
      generalize hW : (wr.setCell ⟨w1.heap.size, 0, none⟩ (.int .u8 zx.toNat)).alloc (M6.obj ⟨zy, m0.b, m0.c, m0.d, m0.e, m0.f⟩) = W at S FB
      unfold M6.obj at hW
      rw [hW]
      clear hW
      have HB2 := Lib.hid (below_to FB.out (below_drew W) FB.out.size)
      obtain ⟨p, hp⟩ : ∃ p : Bool, ((m0.a.toNat : Int) % 2 == 1) = p := ⟨_, rfl⟩
      have PX : Hid (((zx.toNat : Int) % 2 == 1) = p) := by show _ = _; rw [← hp]; congr 1; omega
      have PY : Hid (((zy.toNat : Int) % 2 == 1) = !p) := by
        show _ = _
        rw [← hp]
        rcases Nat.mod_two_eq_zero_or_one m0.a.toNat with h | h
        · rw [show (zy.toNat : Int) % 2 = 1 by omega, show (m0.a.toNat : Int) % 2 = 0 by omega]; rfl
        · rw [show (zy.toNat : Int) % 2 = 0 by omega, show (m0.a.toNat : Int) % 2 = 1 by omega]; rfl
      have PM := Lib.hid hp
      clear pzx pzy hp FB
      have Hzx := zx.toNat_lt
      have Hzy := zy.toNat_lt
      have Hma := m0.a.toNat_lt
      generalize w1.heap.size = gx at *
      generalize wr.heap.size = gy at *
      obtain ⟨⟨x0, x1, x2, x3, x4, x5⟩, ⟨c0, c1, c2, c3, c4, c5⟩, ⟨y0, y1, y2, y3, y4, y5⟩⟩ := S.out.cells
      obtain ⟨a0, a1, a2, a3, a4, a5⟩ := S.out.all
      go_region_law (first
        | (go_simp; go_at_call 16; (with_reducible refine (Group_b (zx.toNat : Int) p (by omega) (by omega) PX.out _ _ _ _ _ _).mono ?_); rintro e W' ⟨rfl, hb⟩; (have HB2 := Lib.hid (below_to HB2.out hb HB2.out.size)); (have S := Lib.hid (S.out.below hb)); clear hb; obtain ⟨⟨x0, x1, x2, x3, x4, x5⟩, ⟨c0, c1, c2, c3, c4, c5⟩, ⟨y0, y1, y2, y3, y4, y5⟩⟩ := S.out.cells; obtain ⟨a0, a1, a2, a3, a4, a5⟩ := S.out.all)
        | (go_simp; go_at_call 16; (with_reducible refine (Group_b (m0.a.toNat : Int) p (by omega) (by omega) PM.out _ _ _ _ _ _).mono ?_); rintro e W' ⟨rfl, hb⟩; (have HB2 := Lib.hid (below_to HB2.out hb HB2.out.size)); (have S := Lib.hid (S.out.below hb)); clear hb; obtain ⟨⟨x0, x1, x2, x3, x4, x5⟩, ⟨c0, c1, c2, c3, c4, c5⟩, ⟨y0, y1, y2, y3, y4, y5⟩⟩ := S.out.cells; obtain ⟨a0, a1, a2, a3, a4, a5⟩ := S.out.all)
        | (go_simp; go_at_call 16; (with_reducible refine (Group_b (zy.toNat : Int) (!p) (by omega) (by omega) PY.out _ _ _ _ _ _).mono ?_); rintro e W' ⟨rfl, hb⟩; (have HB2 := Lib.hid (below_to HB2.out hb HB2.out.size)); (have S := Lib.hid (S.out.below hb)); clear hb; obtain ⟨⟨x0, x1, x2, x3, x4, x5⟩, ⟨c0, c1, c2, c3, c4, c5⟩, ⟨y0, y1, y2, y3, y4, y5⟩⟩ := S.out.cells; obtain ⟨a0, a1, a2, a3, a4, a5⟩ := S.out.all)
        | (go_simp; go_at_call 16; (with_reducible refine (Group_b 255 true (by omega) (by omega) (by decide) _ _ _ _ _ _).mono ?_); rintro e W' ⟨rfl, hb⟩; (have HB2 := Lib.hid (below_to HB2.out hb HB2.out.size)); (have S := Lib.hid (S.out.below hb)); clear hb))
      all_goals (go_wp2_with fail)
      all_goals go_ret
      all_goals exact ⟨rfl, HB2.out⟩
end Go.Proofs.YtkpncnbgdammaaaDoor
