/-
  What is proved: the document's Learn by contract.
  Conditions: the numbers fit their types.
-/
import Derived.Test.YtfeipeninmclkaaRcPut
import Derived.Test.YtfeipeninmclkaaRcRoom
namespace Go.Proofs.Ytfeipeninmclkaa
open Go.RowKit

theorem setCell_typ {w : World} {g : Nat} {cur : Array Value} {t : TypeId} {fr : Nat × Nat} (h : w.heap[g]? = some (.cells cur t fr)) (a : Addr) (v : Value) : ∃ cur', (w.setCell a v).heap[g]? = some (.cells cur' t fr) := by
  by_cases e : a.block = g
  · subst e
    exact ⟨_, by simp [World.setCell, Array.getElem?_modify, h]; rfl⟩
  · exact ⟨cur, (Below.heap_setCell _ _ _ _ (fun k => e k.symm)).trans h⟩
theorem setCells_typ {g b : Nat} {t : TypeId} {fr : Nat × Nat} : ∀ (vs : List Value) (o : Nat) (w : World) (cur : Array Value), w.heap[g]? = some (.cells cur t fr) → ∃ cur', (w.setCells b o vs).heap[g]? = some (.cells cur' t fr)
  | [], _, _, cur, h => ⟨cur, h⟩
  | v :: r, o, w, _, h => by
    obtain ⟨c1, h1⟩ := setCell_typ h ⟨b, o, none⟩ v
    rw [World.setCells]
    exact setCells_typ r _ _ c1 h1
theorem setCells_tape (b : Nat) : ∀ (vs : List Value) (o : Nat) (w : World), (w.setCells b o vs).tape = w.tape
  | [], _, _ => rfl
  | v :: r, o, w => by rw [World.setCells, setCells_tape b r]; rfl
theorem setCells_size (b : Nat) : ∀ (vs : List Value) (o : Nat) (w : World), (w.setCells b o vs).heap.size = w.heap.size
  | [], _, _ => rfl
  | v :: r, o, w => by rw [World.setCells, setCells_size b r]; simp [World.setCell]
theorem putx_set {P : List Xe} {k : Nat} {s x : Xe} (hs : Srt (P.map Xe.e)) (hk : P[k]? = some s) (hip : x.e.ip = s.e.ip) : (P.set k x).map Xe.e = putL (P.map Xe.e) x.e := by
  obtain ⟨h1, h2⟩ := List.getElem?_eq_some_iff.1 hk
  have e : P.map Xe.e = (P.take k).map Xe.e ++ s.e :: (P.drop (k + 1)).map Xe.e := by
    rw [← List.map_cons, ← List.map_append, ← h2, ← List.drop_eq_getElem_cons h1, List.take_append_drop]
  rw [List.set_eq_take_append_cons_drop, if_pos h1, List.map_append, List.map_cons, e]
  rw [e] at hs
  exact (put_mid hs hip).symm
section
variable {w W W' : World} {p : Nat} {F : Nat → Prop} {P : List Xe} {g o c k : Nat} {s x : Xe}
/-- One entry of the row is written anew. -/
theorem Rc.written (h : Rc w p F (.slice (some ⟨g, o, none⟩) P.length c) P) (hb : Below w.heap.size w W) (hos : W'.os = W.os) (htp : W'.tape = W.tape) (hout : W'.output = W.output) (hz : W'.heap.size = W.heap.size)
    (hne : ∀ j, j ≠ g → W'.heap[j]? = W.heap[j]?) (hg : ∃ cur, W'.heap[g]? = some (.cells cur 74 (0, 0))) (hk : P[k]? = some s) (hx : XAt W' g (o + k * 11) x)
    (hrest : ∀ j y, j ≠ k → P[j]? = some y → XAt W' g (o + j * 11) y) (hS : SRow W (Nw w W F) x.A x.c x.e.pk) (hok : x.e.Ok) (hip : x.e.ip = s.e.ip) :
    (P.set k x).map Xe.e = putL (P.map Xe.e) x.e ∧ Rc W' p (Nw w W F) (.slice (some ⟨g, o, none⟩) P.length c) (P.set k x) ∧ Did w W' F (Nw w W F) := by
  have hm := putx_set h.srt hk hip
  have hlt := (List.getElem?_eq_some_iff.1 hk).1
  obtain ⟨A, c', e, h1, h2, h3, h4, h5⟩ := h.row
  cases e
  obtain ⟨f1, cur1, f2⟩ := h5 _ rfl
  have hgp : g ≠ p := by
    rintro rfl
    rw [h.blk] at f2
    cases f2
  have hg0 : g < w.heap.size := h.flt g f1
  have hgW : W.heap[g]? = some (.cells cur1 74 (0, 0)) := (hb.block g hg0).trans f2
  have hmem : ∀ y ∈ P.set k x, y = x ∨ y ∈ P := fun y hy => (List.mem_or_eq_of_mem_set hy).symm
  refine ⟨hm, ⟨(hne p (fun e => hgp e.symm)).trans ((hb.block p h.lt).trans h.blk), ⟨_, c, by rw [List.length_set], by rw [List.length_set]; exact h1, h2, fun j y hj => ?_, .inr ⟨g, o, rfl⟩, fun a ha => ?_⟩, fun y hy => ?_, by rw [hm]; exact srt_put h.srt _, fun y hy => ?_, by rw [List.length_set]; exact h.few, .inl h.fp, fun j hj => ?_⟩,
    ⟨hos.trans hb.os, htp.trans hb.tape, hout.trans hb.output, by rw [hz]; exact hb.size, fun j hj hF => (hne j (fun e => hF (e ▸ f1))).trans (hb.block j hj), fun j hj => hj.imp id And.left⟩⟩
  · rw [List.getElem?_set] at hj
    refine ⟨g, o, rfl, ?_⟩
    by_cases e : k = j
    · subst e
      rw [if_pos rfl, if_pos hlt] at hj
      obtain rfl : x = y := by simpa using hj
      exact hx
    · rw [if_neg e] at hj
      exact hrest j y (fun e2 => e e2.symm) hj
  · cases ha
    exact ⟨.inl f1, hg⟩
  · rcases hmem y hy with rfl | hy
    · exact hS.at fun a ha => hne _ (hS.ne ha hgW eentry_ne)
    · have h0 := ((h.strs y hy).below hb).wide (F' := Nw w W F) (fun k hk => .inl hk)
      exact h0.at fun a ha => hne _ (h0.ne ha hgW eentry_ne)
  · rcases hmem y hy with rfl | hy
    · exact hok
    · exact h.ok y hy
  · rw [hz]
    exact hj.elim (fun hj => Nat.lt_of_lt_of_le (h.flt j hj) hb.size) And.right
/-- c.L[k] = x. -/
theorem Rc.set (h : Rc w p F (.slice (some ⟨g, o, none⟩) P.length c) P) (hb : Below w.heap.size w W) (hk : P[k]? = some s) (hS : SRow W (Nw w W F) x.A x.c x.e.pk) (hok : x.e.Ok) (hip : x.e.ip = s.e.ip) :
    W.there g (o + k * 11) 11 ∧ (P.set k x).map Xe.e = putL (P.map Xe.e) x.e ∧ Rc (W.setCells g (o + k * 11) x.cells) p (Nw w W F) (.slice (some ⟨g, o, none⟩) P.length c) (P.set k x) ∧ Did w (W.setCells g (o + k * 11) x.cells) F (Nw w W F) := by
  obtain ⟨A, c', e, h1, h2, h3, h4, h5⟩ := (h.below hb).row
  cases e
  obtain ⟨f1, cur1, f2⟩ := h5 _ rfl
  have hX : ∀ j y, P[j]? = some y → XAt W g (o + j * 11) y := fun j y hj => by
    obtain ⟨g', o', e, hy⟩ := h3 j y hj
    cases e
    exact hy
  have ht : W.there g (o + k * 11) 11 := fun j hj => by
    have hr := (hX k s hk).range
    obtain ⟨u, hu⟩ : ∃ u, s.cells[j]? = some u := ⟨s.cells[j], List.getElem?_eq_getElem (show j < s.cells.length from hj)⟩
    exact ⟨by rw [hr j u hu]; rfl, by simp [World.frozen?, f2]⟩
  refine ⟨ht, h.written hb (World.os_setCells W g _ _) (setCells_tape g _ _ W) (World.output_setCells W g _ _) (setCells_size g _ _ W) (fun j hj => ?_) (setCells_typ _ _ W cur1 f2) hk (XAt.of (World.rangeAt_setCells_same W g (o + k * 11) x.cells ht)) (fun j y hj hy => ?_) hS hok hip⟩
  · by_cases hl : j < W.heap.size
    · exact World.heap_setCells_other W g _ _ hl hj
    · rw [Array.getElem?_eq_none (by rw [setCells_size]; omega), Array.getElem?_eq_none (by omega)]
  · refine XAt.of fun i v hi => ?_
    have hi11 : i < 11 := (List.getElem?_eq_some_iff.1 hi).1
    exact (World.cell?_setCells_out g _ _ W _ (fun _ _ => by
      show o + j * 11 + i < o + k * 11 ∨ o + k * 11 + 11 ≤ o + j * 11 + i
      omega)).trans ((hX j y hy).range i v hi)
/-- Texts stay where an entry is written. -/
theorem SRow.kept {A : Option Addr} {d : Nat} {pk : List (List UInt8)} (h : SRow w F A d pk) {cur : Array Value} (hg : w.heap[g]? = some (.cells cur 74 (0, 0))) (i : Nat) (vs : List Value) : SRow (w.setCells g i vs) F A d pk :=
  h.at fun a ha => by
    obtain ⟨cur2, hc⟩ := h.blk ha
    exact World.heap_setCells_other w g i vs (Array.getElem?_eq_some_iff.1 hc).1 (h.ne ha hg eentry_ne)
end
def RLearnAt (L : List En) (ip : Int) (m : Mc) (now : Int) (p : Nat) (F : Nat → Prop) (w : World) (e : Ending) (w' : World) : Prop :=
  ∃ A c v' F' P', e = .returned (.tuple #[.slice A (learnP L ip).length c, .int .i64 (learnC L ip)]) ∧ SRow w' F' A c (learnP L ip) ∧ P'.map Xe.e = learnL L ip m now ∧ Rc w' p F' v' P' ∧ Did w w' F F'
theorem no_map {P : List Xe} {ip : Int} (h : ∀ y ∈ P, ¬ y.e.ip = ip) {P' : List Xe} (hs : ∀ y ∈ P', y ∈ P) : ∀ y ∈ P', ¬ y.e.ip = ip := fun y hy => h y (hs y hy)

set_option maxRecDepth 100000 in
set_option maxHeartbeats 4000000 in
theorem rlearn_any (P : List Xe) (ip : Int) (m : Mc) (now : Int) (hip : U32 ip) (hn : U64 now) (p : Nat) (F : Nat → Prop) (v : Value) (w : World) (h : Rc w p F v P) :
    Calls Try.prog 14 #[.pointer (some ⟨p, 0, none⟩), .int .u32 ip, m.val, .int .u64 now] w (RLearnAt (P.map Xe.e) ip m now p F w) := by
  obtain ⟨z, hz⟩ := pos_ex P ip
  have HZ := Lib.hid hz
  have HH := Lib.hid h
  have h32 := h.few
  have HK : Hid ((known ip m now).Ok) := Lib.hid (known_ok hip hn)
  have HB : Hid (Below w.heap.size w (w.alloc m.obj)) := Lib.hid ((Below.refl _ w).alloc (Nat.le_refl _) _)
  have hM := Lib.hid (heap_alloc_new w m.obj)
  have X := Lib.hid ((h.below HB.out).find hz)
  have XR := Lib.hid (rroom_any P p F v _ (h.below HB.out))
  have HG : Hid (¬ F w.heap.size) := Lib.hid (fun hF => absurd (h.flt _ hF) (by omega))
  unfold Mc.obj Mc.cells at HB hM X XR
  unfold Mc.val
  clear hz h hip hn
  rcases HZ.out with ⟨rfl, hno⟩ | ⟨k, x, rfl, hk, hx⟩
  · have Hno := Lib.hid hno
    have hlk := Lib.hid (Pos.look_none hno)
    have hlp : Hid (learnP (P.map Xe.e) ip = []) := Lib.hid (by unfold learnP; rw [hlk.out])
    clear hno
    cases hr : room (P.map Xe.e) with
    | none =>
      have hr' := Lib.hid hr
      have hlc : Hid (learnC (P.map Xe.e) ip = 5) := Lib.hid (by unfold learnC; rw [hlk.out, hr]; rfl)
      have hll : Hid (learnL (P.map Xe.e) ip m now = P.map Xe.e) := Lib.hid (by unfold learnL; rw [hlk.out, hr]; rfl)
      unfold RRoomAt at XR
      rw [hr] at XR
      clear hr
      go_enter Try.func14, Try.ntmps14
      go_wp2_with (first
        | (go_at_call 26; (with_reducible refine X.out.mono ?_); rintro e w2 ⟨rfl, rfl⟩)
        | (go_at_call 29; (with_reducible refine XR.out.mono ?_); rintro e w3 ⟨v3, F3, P3, rfl, hm, hs3, hl3, hR3, hD3⟩; (have R3 := Lib.hid hR3); (have D3 := Lib.hid hD3); (have M3 := Lib.hid hm); clear hR3 hD3 hm hs3 hl3))
      go_ret2
      refine ⟨none, 0, _, _, _, by rw [hlp.out, hlc.out]; rfl, by rw [hlp.out]; exact SRow.nil _ _, by rw [hll.out]; exact M3.out, R3.out, (Did.of_below HB.out).trans D3.out⟩
    | some L' =>
      have hlc : Hid (learnC (P.map Xe.e) ip = 0) := Lib.hid (by unfold learnC; rw [hlk.out, hr]; rfl)
      have hll : Hid (learnL (P.map Xe.e) ip m now = putL L' (known ip m now)) := Lib.hid (by unfold learnL; rw [hlk.out, hr]; rfl)
      unfold RRoomAt at XR
      rw [hr] at XR
      clear hr
      go_enter Try.func14, Try.ntmps14
      go_upto_region 6 with (first
        | (go_at_call 26; (with_reducible refine X.out.mono ?_); rintro e w2 ⟨rfl, rfl⟩)
        | (go_at_call 29; (with_reducible refine XR.out.mono ?_); rintro e w3 ⟨v3, F3, P3, rfl, hm, hs3, hl3, hR3, hD3⟩; (have R3 := Lib.hid hR3); (have D3 := Lib.hid hD3); (have M3 := Lib.hid hm); (have S3 := Lib.hid hs3); (have L3 := Lib.hid hl3); clear hR3 hD3 hm hs3 hl3))
      have hM3 := (D3.out.block w.heap.size (by simp) HG.out).trans hM.out
      obtain ⟨b0, b1, b2, b3, b4, b5⟩ := mac_box (m := m) hM3
      have XP : Hid (Calls Try.prog 30 #[.pointer (some ⟨p, 0, none⟩), .agg #[.int .u32 ip, .bool true, .int .u8 m.a, .int .u8 m.b, .int .u8 m.c, .int .u8 m.d, .int .u8 m.e, .int .u8 m.f, .int .u64 now, .int .i64 0, .slice none 0 0]] w3 (PutAt P3 ⟨known ip m now, none, 0⟩ p F3 w3)) :=
        Lib.hid (rput_any P3 ⟨known ip m now, none, 0⟩ HK.out (no_map Hno.out S3.out) (L3.out rfl) p F3 v3 w3 R3.out (SRow.nil _ _))
      clear hM3 X XR
      go_wp2_with (go_at_call 30; (with_reducible refine XP.out.mono ?_); rintro e w5 ⟨v5, F5, P5, rfl, hm, hR5, hD5⟩; (have R5 := Lib.hid hR5); (have D5 := Lib.hid hD5); (have M5 := Lib.hid hm); clear hR5 hD5 hm)
      go_ret2
      refine ⟨none, 0, _, _, _, by rw [hlp.out, hlc.out]; rfl, by rw [hlp.out]; exact SRow.nil _ _, ?_, R5.out, ((Did.of_below HB.out).trans D3.out).trans D5.out⟩
      rw [hll.out, M5.out, M3.out]
      rfl
  · subst hx
    have hlk := Lib.hid (Pos.look_some HH.out.srt hk)
    have hlp : Hid (learnP (P.map Xe.e) x.e.ip = x.e.pk) := Lib.hid (by unfold learnP; rw [hlk.out])
    have hlc : Hid (learnC (P.map Xe.e) x.e.ip = 0) := Lib.hid (by unfold learnC; rw [hlk.out]; rfl)
    have hll : Hid (learnL (P.map Xe.e) x.e.ip m now = putL (P.map Xe.e) (known x.e.ip m now)) := Lib.hid (by unfold learnL; rw [hlk.out]; rfl)
    have hkl := (List.getElem?_eq_some_iff.1 hk).1
    have Hk := Lib.hid hk
    obtain ⟨A, c, rfl, hc1, hc2, hRI, _⟩ := HH.out.open
    obtain ⟨g, o, rfl, hX⟩ := hRI k x hk
    have HX := Lib.hid hX
    have qk : decide ((k : Int) < 0) = false := decide_eq_false (by omega)
    clear XR hk hRI hX
    go_enter Try.func14, Try.ntmps14
    go_upto_region 8 with (go_at_call 26; (with_reducible refine X.out.mono ?_); rintro e w2 ⟨rfl, rfl⟩)
    have H1 := Lib.hid (HH.out.below HB.out)
    have X1 := Lib.hid (HX.out.below HB.out)
    generalize w.alloc (.cells #[.int .u8 m.a, .int .u8 m.b, .int .u8 m.c, .int .u8 m.d, .int .u8 m.e, .int .u8 m.f] 34) = w1 at HB hM H1 X1 ⊢
    obtain ⟨G, hG⟩ : ∃ G, w.heap.size = G := ⟨_, rfl⟩
    have HGe := Lib.hid hG
    have hM1 := hM.out
    rw [hG] at hM1 ⊢
    obtain ⟨b0, b1, b2, b3, b4, b5⟩ := mac_box (m := m) hM1
    have hp := H1.out.cell
    have c10 := X1.out.c10
    clear X hG hM1
    go_upto_region 9 with fail
    have B3 := Lib.hid (below_dN (Below.refl w1.heap.size w1) 1)
    have HS := Lib.hid (H1.out.set B3.out Hk.out (x := ⟨known x.e.ip m now, none, 0⟩) (SRow.nil _ _) HK.out rfl)
    refine wp_region_still_tail 10 (by kernel_rfl) (by kernel_rfl) ?_
    generalize hD : ({ w1 with drawn := w1.drawn + 1 } : World) = D
    have HD : D = w1.drewN 1 := hD.symm
    rw [← HD] at HS B3
    have b0 : D.cell? ⟨G, 0, none⟩ = some (.int .u8 m.a) := by rw [HD]; exact b0
    have b1 : D.cell? ⟨G, 1, none⟩ = some (.int .u8 m.b) := by rw [HD]; exact b1
    have b2 : D.cell? ⟨G, 2, none⟩ = some (.int .u8 m.c) := by rw [HD]; exact b2
    have b3 : D.cell? ⟨G, 3, none⟩ = some (.int .u8 m.d) := by rw [HD]; exact b3
    have b4 : D.cell? ⟨G, 4, none⟩ = some (.int .u8 m.e) := by rw [HD]; exact b4
    have b5 : D.cell? ⟨G, 5, none⟩ = some (.int .u8 m.f) := by rw [HD]; exact b5
    have hp : D.cell? ⟨p, 0, none⟩ = some (.slice (some ⟨g, o, none⟩) P.length c) := by rw [HD]; exact hp
    have HT := Lib.hid HS.out.1
    clear HD hD c10
    simp only [List.take_succ_cons, List.take_zero, List.drop_succ_cons, List.drop_zero]
    repeat still_step
    refine wpStill_nil ?_
    go_wp2_with (refine wpList_store_mid rfl 74 (.tmp 45) (.tmp 44) rfl g (o + k * 11) #[.int .u32 x.e.ip, .bool true, .int .u8 m.a, .int .u8 m.b, .int .u8 m.c, .int .u8 m.d, .int .u8 m.e, .int .u8 m.f, .int .u64 now, .int .i64 0, .slice none 0 0] rfl rfl HT.out xSize (by simp [Value.oneCell']) ?_)
    go_wp2_with fail
    go_ret2
    obtain ⟨_, hm, hR, hD⟩ := HS.out
    have hst := (H1.out.strs x (List.mem_of_getElem? Hk.out)).below B3.out
    obtain ⟨_, _, _, _, _, _, _, h5⟩ := (H1.out.below B3.out).row
    obtain ⟨A', c', e', _, _, _, _, h5⟩ := (H1.out.below B3.out).row
    cases e'
    obtain ⟨_, cur, hcur⟩ := h5 _ rfl
    refine ⟨x.A, x.c, _, _, _, by rw [hlp.out, hlc.out]; rfl, by rw [hlp.out]; exact (hst.wide (fun j hj => .inl hj)).kept hcur _ _, by rw [hll.out]; exact hm, hR, (Did.of_below HB.out).trans hD⟩
end Go.Proofs.Ytfeipeninmclkaa
