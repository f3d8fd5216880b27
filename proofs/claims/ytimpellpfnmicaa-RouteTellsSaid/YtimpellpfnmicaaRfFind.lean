/-
  What is proved: the document's table (a slice of routes behind a pointer), and its Find by contract.
  Conditions: the address fits its type.
-/
import Derived.Test.YtimpellpfnmicaaRfSame
import Derived.Test.YtimpellpfnmicaaLawRtRefines
namespace Go.Proofs.Ytimpellpfnmicaa
open Go.RowKit

theorem flat_get : ∀ (L : List Rt) (k j : Nat) (r : Rt), L[k]? = some r → j < 4 → (L.flatMap encRt')[k * 4 + j]? = (encRt' r)[j]?
  | [], _, _, _, h, _ => by simp at h
  | x :: l, 0, j, r, h, hj => by
    obtain rfl : x = r := by simpa using h
    rw [List.flatMap_cons, List.getElem?_append_left (by show 0 * 4 + j < 4; omega)]
    simp
  | x :: l, k + 1, j, r, h, hj => by
    rw [List.flatMap_cons, List.getElem?_append_right (by show 4 ≤ (k + 1) * 4 + j; omega)]
    have e : (k + 1) * 4 + j - (encRt' x).length = k * 4 + j := by show (k + 1) * 4 + j - 4 = _; omega
    rw [e]
    exact flat_get l k j r (by simpa using h) hj

/-- A block of one's own, from block B on, that may be written over. -/
def Ow (w : World) (B : Nat) (A : Option Addr) : Prop := ∀ a, A = some a → B ≤ a.block ∧ a.block < w.heap.size ∧ ∀ j, w.frozen? ⟨a.block, j, none⟩ = false
theorem frozen_block {w w' : World} {g : Nat} (h : w'.heap[g]? = w.heap[g]?) (j : Nat) : w'.frozen? ⟨g, j, none⟩ = w.frozen? ⟨g, j, none⟩ := by
  unfold World.frozen?
  rw [h]
/-- A slice's address and capacity. -/
def Fm (A : Option Addr) (c : Nat) : Prop := (A = none ∧ c = 0) ∨ ∃ g o, A = some ⟨g, o, none⟩
/-- The document's table: its cell holds a slice of the routes, a row of its own. -/
structure Rf (w : World) (p B : Nat) (v : Value) (L : List Rt) : Prop where
  blk : w.heap[p]? = some (.cells #[v] 29)
  row : ∃ A c, v = .slice A L.length c ∧ L.length ≤ c ∧ c ≤ 9223372036854775807 ∧ RtsIn w A L ∧ Ow w B A ∧ Fm A c
  srt : Srt L
  right : ∀ r ∈ L, r.Right
  few : L.length ≤ 64
section
variable {w w' : World} {p B : Nat} {v : Value} {L : List Rt}
theorem Rf.cell (h : Rf w p B v L) : w.cell? ⟨p, 0, none⟩ = some v := by simp [World.cell?, h.blk]
theorem Rf.lt (h : Rf w p B v L) : p < w.heap.size := (Array.getElem?_eq_some_iff.1 h.blk).1
theorem Rf.at (h : Rf w p B v L) (hp : w'.heap[p]? = w.heap[p]?) (hs : w.heap.size ≤ w'.heap.size) (hv : ∀ g, v.ownBlock = some g → w'.heap[g]? = w.heap[g]?) : Rf w' p B v L := by
  obtain ⟨A, c, rfl, h1, h2, h3, h4, h5⟩ := h.row
  refine ⟨hp.trans h.blk, ⟨A, c, rfl, h1, h2, fun k r hk => ?_, fun a ha => ?_, h5⟩, h.srt, h.right, h.few⟩
  · obtain ⟨g, o, rfl, c0, c1, c2, c3⟩ := h3 k r hk
    have e := hv g rfl
    have hc : ∀ {i v}, w.cell? ⟨g, i, none⟩ = some v → w'.cell? ⟨g, i, none⟩ = some v := fun hi => by
      unfold World.cell? at *
      rw [e]
      exact hi
    exact ⟨g, o, rfl, hc c0, hc c1, hc c2, hc c3⟩
  · subst ha
    obtain ⟨k1, k2, k3⟩ := h4 a rfl
    have e := hv a.block rfl
    exact ⟨k1, Nat.lt_of_lt_of_le k2 hs, fun j => (frozen_block e j).trans (k3 j)⟩
theorem Rf.own (h : Rf w p B v L) : ∀ g, v.ownBlock = some g → B ≤ g ∧ g < w.heap.size := by
  obtain ⟨A, c, rfl, _, _, _, h4, _⟩ := h.row
  intro g hg
  cases A with
  | none => cases hg
  | some a =>
    obtain rfl : a.block = g := by simpa [Value.ownBlock] using hg
    exact ⟨(h4 a rfl).1, (h4 a rfl).2.1⟩
theorem Rf.below (h : Rf w p B v L) (hb : Below w.heap.size w w') : Rf w' p B v L := h.at (hb.block p h.lt) hb.size (fun g hg => hb.block g (h.own g hg).2)
theorem Rf.open (h : Rf w p B v L) : ∃ A c, v = .slice A L.length c ∧ L.length ≤ c ∧ c ≤ 9223372036854775807 ∧ RtsIn w A L := by
  obtain ⟨A, c, h1, h2, h3, h4, _⟩ := h.row
  exact ⟨A, c, h1, h2, h3, h4⟩
theorem Rf.open2 (h : Rf w p B v L) : ∃ A c, v = .slice A L.length c ∧ L.length ≤ c ∧ c ≤ 9223372036854775807 ∧ RtsIn w A L ∧ Fm A c := by
  obtain ⟨A, c, h1, h2, h3, h4, _, h5⟩ := h.row
  exact ⟨A, c, h1, h2, h3, h4, h5⟩
end
/-- A row of one's own that was built of routes. -/
theorem row_of_owns {w : World} {B : Nat} {v : Value} {L : List Rt} (h : w.ownsRow B 36 4 v L.length (L.flatMap encRt')) : ∃ A c, v = .slice A L.length c ∧ L.length ≤ c ∧ c ≤ 9223372036854775807 ∧ RtsIn w A L ∧ Ow w B A ∧ Fm A c := by
  rcases h.2 with ⟨h1, h2⟩ | ⟨g, cap, cur, hv, hb, hg, h1, h2, h3, h4⟩
  · have hL : L = [] := List.length_eq_zero_iff.1 h2
    subst hL
    exact ⟨none, 0, h1, Nat.le_refl _, by omega, (fun k r hk => by simp at hk), (fun a ha => by cases ha), .inl ⟨rfl, rfl⟩⟩
  · refine ⟨_, _, hv, h1, by unfold maxLen at h2; omega, fun k r hk => ⟨g, 0, rfl, ?_⟩, fun a ha => ?_, .inr ⟨g, 0, rfl⟩⟩
    · have hlt := (List.getElem?_eq_some_iff.1 hk).1
      have hc : ∀ j x, j < 4 → (encRt' r)[j]? = some x → w.cell? ⟨g, 0 + k * 4 + j, none⟩ = some x := fun j x hj hx => by
        have e := flat_get L k j r hk hj
        rw [← h4, List.getElem?_take_of_lt (by omega), Array.getElem?_toList, hx] at e
        simp only [World.cell?, hg, Nat.zero_add]
        exact e
      exact ⟨hc 0 _ (by omega) rfl, hc 1 _ (by omega) rfl, hc 2 _ (by omega) rfl, hc 3 _ (by omega) rfl⟩
    · cases ha
      exact ⟨hb, (Array.getElem?_eq_some_iff.1 hg).1, fun j => by simp [World.frozen?, hg]⟩

/-- The best of the first k that cover an address. -/
def Bst (L : List Rt) (x : Int) (k : Nat) (best : Rt) (ok : Bool) : Prop :=
  (ok = false ∧ best = Rt.zero ∧ ∀ s ∈ L.take k, ¬ cutI x s.b = s.d) ∨ (ok = true ∧ best ∈ L.take k ∧ cutI x best.b = best.d ∧ ∀ s ∈ L.take k, cutI x s.b = s.d → s.b ≤ best.b)
theorem Bst.zero (L : List Rt) (x : Int) : Bst L x 0 Rt.zero false := .inl ⟨rfl, rfl, by simp⟩
theorem mem_take_succ {L : List Rt} {k : Nat} {t s : Rt} (ht : L[k]? = some t) : s ∈ L.take (k + 1) ↔ s ∈ L.take k ∨ s = t := by
  rw [List.take_add_one, ht, List.mem_append]
  simp
theorem Bst.skip {L : List Rt} {x : Int} {k : Nat} {best t : Rt} {ok : Bool} (h : Bst L x k best ok) (ht : L[k]? = some t) (hn : cutI x t.b = t.d → ok = true ∧ t.b ≤ best.b) : Bst L x (k + 1) best ok := by
  rcases h with ⟨rfl, rfl, h⟩ | ⟨rfl, h1, h2, h3⟩
  · refine .inl ⟨rfl, rfl, fun s hs => ?_⟩
    rcases (mem_take_succ ht).1 hs with hs | rfl
    · exact h s hs
    · exact fun e => by cases (hn e).1
  · refine .inr ⟨rfl, (mem_take_succ ht).2 (.inl h1), h2, fun s hs hc => ?_⟩
    rcases (mem_take_succ ht).1 hs with hs | rfl
    · exact h3 s hs hc
    · exact (hn hc).2
theorem Bst.take {L : List Rt} {x : Int} {k : Nat} {best t : Rt} {ok : Bool} (h : Bst L x k best ok) (ht : L[k]? = some t) (hc : cutI x t.b = t.d) (hb : ok = true → best.b < t.b) : Bst L x (k + 1) t true := by
  refine .inr ⟨rfl, (mem_take_succ ht).2 (.inr rfl), hc, fun s hs hsc => ?_⟩
  rcases (mem_take_succ ht).1 hs with hs | rfl
  · rcases h with ⟨_, _, h⟩ | ⟨h0, _, _, h3⟩
    · exact absurd hsc (h s hs)
    · have := h3 s hs hsc
      have := hb h0
      omega
  · exact Int.le_refl _
theorem Bst.end {L : List Rt} {x : Int} {best : Rt} {ok : Bool} (hs : Srt L) (hr : ∀ r ∈ L, r.Right) (h : Bst L x L.length best ok) : (fnd L x 33).getD Rt.zero = best ∧ (fnd L x 33).isSome = ok := by
  unfold Bst at h
  rw [List.take_length] at h
  rcases h with ⟨rfl, rfl, h⟩ | ⟨rfl, h1, h2, h3⟩
  · rw [fnd_no (fun s hs e => h s hs e.symm)]
    exact ⟨rfl, rfl⟩
  · rw [fnd_eq hs hr h1 h2.symm (fun s hs hc => h3 s hs hc.symm)]
    exact ⟨rfl, rfl⟩
theorem rrSize : (Try.prog.info? 36).map (·.size) = some 4 := by kernel_rfl

set_option maxRecDepth 100000 in
set_option maxHeartbeats 4000000 in
theorem rFind_any (L : List Rt) (x : Int) (hx : U32 x) (p B : Nat) (v : Value) (w : World) (h : Rf w p B v L) :
    Calls Try.prog 16 #[.pointer (some ⟨p, 0, none⟩), .int .u32 x] w fun e w' => e = .returned (.tuple #[.agg #[.int .u32 ((fnd L x 33).getD Rt.zero).d, .int .i64 ((fnd L x 33).getD Rt.zero).b, .int .u32 ((fnd L x 33).getD Rt.zero).v, .int .i64 ((fnd L x 33).getD Rt.zero).o], .bool (fnd L x 33).isSome]) ∧ Below w.heap.size w w' := by
  obtain ⟨A, c, rfl, hc1, hc2, _⟩ := h.open
  obtain ⟨F, hF⟩ : ∃ F, (fnd L x 33).getD Rt.zero = F := ⟨_, rfl⟩
  obtain ⟨Fo, hFo⟩ : ∃ Fo, (fnd L x 33).isSome = Fo := ⟨_, rfl⟩
  rw [hF, hFo]
  have HE : Hid (∀ best ok, Bst L x L.length best ok → F = best ∧ Fo = ok) := Lib.hid (fun best ok hb => by rw [← hF, ← hFo]; exact hb.end h.srt h.right)
  have HX := Lib.hid hx
  have HH := Lib.hid h
  have h64 := h.few
  clear hF hFo hx h
  go_enter Try.func16, Try.ntmps16
  go_wp2_with fail
  have hB1 := Lib.hid (((Below.refl _ w).alloc (Nat.le_refl _) Rt.zero.robj).alloc (by simp) Rt.zero.robj)
  have hR1 := Lib.hid (((Below.refl _ (w.alloc Rt.zero.robj)).alloc (Nat.le_refl _) Rt.zero.robj).block w.heap.size (by simp) |>.trans (heap_alloc_new w Rt.zero.robj))
  have hR2 := Lib.hid (heap_alloc_new (w.alloc Rt.zero.robj) Rt.zero.robj)
  rw [World.size_alloc] at hR2
  unfold Rt.robj Rt.zero at hB1 hR1 hR2
  simp only at hB1 hR1 hR2
  generalize (w.alloc (Obj.cells #[Value.int IntKind.u32 0, Value.int IntKind.i64 0, Value.int IntKind.u32 0, Value.int IntKind.i64 0] 36)).alloc (Obj.cells #[Value.int IntKind.u32 0, Value.int IntKind.i64 0, Value.int IntKind.u32 0, Value.int IntKind.i64 0] 36) = w1 at hB1 hR1 hR2 ⊢
  obtain ⟨R, hR⟩ : ∃ R, w.heap.size = R := ⟨_, rfl⟩
  have HR := Lib.hid hR
  rw [hR] at hB1 hR1 hR2 ⊢
  clear hR
  go_loopw [7, 8] (fun s7 s8 wr => ∃ (k : Nat) (best : Rt) (ok : Bool), s8 = .int .i64 (k : Int) ∧ s7 = .bool ok ∧ k ≤ L.length ∧ Bst L x k best ok ∧ Below R w wr ∧ wr.heap[R]? = some Rt.zero.robj ∧ wr.heap[R + 1]? = some best.robj) (fun _ s8 _ => L.length - (intOf s8).toNat)
  case atStart => exact ⟨0, Rt.zero, false, rfl, rfl, Nat.zero_le _, Bst.zero _ _, hB1.out, hR1.out, hR2.out⟩
  case round =>
    obtain ⟨k, best, ok, rfl, rfl, hk, hbst, hBr, hr1, hr2⟩ := hrel
    have HBr := Lib.hid hBr
    have Hr1 := Lib.hid hr1
    have Hr2 := Lib.hid hr2
    have HBst := Lib.hid hbst
    clear hBr hr1 hr2 hbst
    by_cases hlt : k < L.length
    · have q1 : decide ((k : Int) < (L.length : Int)) = true := decide_eq_true (by omega)
      obtain ⟨t, ht⟩ : ∃ t, L[k]? = some t := ⟨L[k], List.getElem?_eq_getElem hlt⟩
      have Hw := Lib.hid (HH.out.below (HR.out ▸ HBr.out))
      obtain ⟨A', c', hv, _, _, hRI⟩ := Hw.out.open
      obtain ⟨rfl, rfl⟩ : A = A' ∧ c = c' := by
        injection hv with h1 h2 h3
        exact ⟨h1, h3⟩
      obtain ⟨g, o, rfl, c0, c1, c2, c3⟩ := hRI k t ht
      have hp := Hw.out.cell
      have HT := Lib.hid ht
      obtain ⟨cv, hcv⟩ : ∃ cv, (cutI x t.b == t.d) = cv := ⟨_, rfl⟩
      have HC := Lib.hid (fun W => rcovers_any t (HH.out.right t (List.mem_of_getElem? HT.out)).i.b x HX.out W)
      rw [hcv] at HC
      have Hcv := Lib.hid hcv
      clear ht hv hRI hcv
      go_upto_region 7 with (go_at_call 23; refine (HC.out _).mono ?_; rintro e w5 ⟨rfl, hB⟩; (have E5 := Lib.hid hB); clear hB)
      have HB5 := Lib.hid (below_to HBr.out E5.out (HR.out ▸ HBr.out.size))
      have d1 := (E5.out.cell (World.block_lt_of_cell? wr _ c1)).trans c1
      have d0 := (E5.out.cell (World.block_lt_of_cell? wr _ c0)).trans c0
      have d2 := (E5.out.cell (World.block_lt_of_cell? wr _ c2)).trans c2
      have d3 := (E5.out.cell (World.block_lt_of_cell? wr _ c3)).trans c3
      have dp := (E5.out.cell (World.block_lt_of_cell? wr _ hp)).trans hp
      have Z1 := Lib.hid ((E5.out.block R (Array.getElem?_eq_some_iff.1 Hr1.out).1).trans Hr1.out)
      have Z2 := Lib.hid ((E5.out.block (R + 1) (Array.getElem?_eq_some_iff.1 Hr2.out).1).trans Hr2.out)
      obtain ⟨b0, b1, b2, b3⟩ := RtAt.of_rheap Z2.out
      clear c0 c1 c2 c3 hp E5 Hr1 Hr2 Hw HC b0 b2 b3
      cases cv with
      | false =>
        have HS := Lib.hid (HBst.out.skip HT.out (fun e => by have := Hcv.out; rw [e] at this; simp at this))
        go_quiet (fail)
        go_wp2_with fail
        exact ⟨⟨k + 1, best, ok, by simp, rfl, by omega, HS.out, below_dN HB5.out _, Z1.out, Z2.out⟩, by simp [intOf]; omega⟩
      | true =>
        have hct : cutI x t.b = t.d := beq_iff_eq.1 Hcv.out
        by_cases htk : ok = true → best.b < t.b
        · have HS := Lib.hid (HBst.out.take HT.out hct htk)
          have q2 : ok = true → decide (best.b < t.b) = true := fun e => decide_eq_true (htk e)
          clear hct htk
          cases ok with
          | false =>
            clear q2
            go_upto_region 8 with fail
            go_quiet (fail)
            obtain ⟨w6, hw6⟩ : ∃ w6, w5.drewN nq = w6 := ⟨_, rfl⟩
            have Y1 := Lib.hid (show w6.heap[R]? = some Rt.zero.robj by rw [← hw6]; exact Z1.out)
            have Y2 := Lib.hid (show w6.heap[R + 1]? = some best.robj by rw [← hw6]; exact Z2.out)
            have e0 : w6.cell? ⟨g, o + k * 4, none⟩ = some (.int .u32 t.d) := by rw [← hw6]; exact d0
            have e1 : w6.cell? ⟨g, o + k * 4 + 1, none⟩ = some (.int .i64 t.b) := by rw [← hw6]; exact d1
            have e2 : w6.cell? ⟨g, o + k * 4 + 2, none⟩ = some (.int .u32 t.v) := by rw [← hw6]; exact d2
            have e3 : w6.cell? ⟨g, o + k * 4 + 3, none⟩ = some (.int .i64 t.o) := by rw [← hw6]; exact d3
            have ep : w6.cell? ⟨p, 0, none⟩ = some (.slice (some ⟨g, o, none⟩) L.length c) := by rw [← hw6]; exact dp
            have HB6 := Lib.hid (below_dN HB5.out nq)
            rw [hw6] at HB6 ⊢
            clear hw6 d0 d1 d2 d3 dp b1 Z1 Z2 HB5
            unfold Rt.robj at Y2
            go_wp2_with (refine wpList_store_row rfl 36 (.tmp 6) (.tmp 53) rfl (R + 1) #[.int .u32 t.d, .int .i64 t.b, .int .u32 t.v, .int .i64 t.o] rfl rfl 36 _ Y2.out rrSize rfl (rtRow_one _ _ _ _) ?_)
            go_wp2_with fail
            exact ⟨⟨k + 1, t, true, by simp, rfl, by omega, HS.out, below_setRow HB6.out (by omega) _, (setRow_other _ _ _ (by omega)).trans Y1.out, setRow_heap _ _ _ _ _ _ Y2.out⟩, by simp [intOf]; omega⟩
          | true =>
            replace q2 := q2 rfl
            go_upto_region 8 with fail
            go_quiet (fail)
            obtain ⟨w6, hw6⟩ : ∃ w6, w5.drewN nq = w6 := ⟨_, rfl⟩
            have Y1 := Lib.hid (show w6.heap[R]? = some Rt.zero.robj by rw [← hw6]; exact Z1.out)
            have Y2 := Lib.hid (show w6.heap[R + 1]? = some best.robj by rw [← hw6]; exact Z2.out)
            have e0 : w6.cell? ⟨g, o + k * 4, none⟩ = some (.int .u32 t.d) := by rw [← hw6]; exact d0
            have e1 : w6.cell? ⟨g, o + k * 4 + 1, none⟩ = some (.int .i64 t.b) := by rw [← hw6]; exact d1
            have e2 : w6.cell? ⟨g, o + k * 4 + 2, none⟩ = some (.int .u32 t.v) := by rw [← hw6]; exact d2
            have e3 : w6.cell? ⟨g, o + k * 4 + 3, none⟩ = some (.int .i64 t.o) := by rw [← hw6]; exact d3
            have ep : w6.cell? ⟨p, 0, none⟩ = some (.slice (some ⟨g, o, none⟩) L.length c) := by rw [← hw6]; exact dp
            have HB6 := Lib.hid (below_dN HB5.out nq)
            rw [hw6] at HB6 ⊢
            clear hw6 d0 d1 d2 d3 dp b1 Z1 Z2 HB5
            unfold Rt.robj at Y2
            go_wp2_with (refine wpList_store_row rfl 36 (.tmp 6) (.tmp 53) rfl (R + 1) #[.int .u32 t.d, .int .i64 t.b, .int .u32 t.v, .int .i64 t.o] rfl rfl 36 _ Y2.out rrSize rfl (rtRow_one _ _ _ _) ?_)
            go_wp2_with fail
            exact ⟨⟨k + 1, t, true, by simp, rfl, by omega, HS.out, below_setRow HB6.out (by omega) _, (setRow_other _ _ _ (by omega)).trans Y1.out, setRow_heap _ _ _ _ _ _ Y2.out⟩, by simp [intOf]; omega⟩
        · have hok : ok = true := by
            cases ok with
            | true => rfl
            | false => exact absurd (fun e => by cases e) htk
          subst hok
          have hnb : ¬ best.b < t.b := fun e => htk (fun _ => e)
          have q2 : decide (best.b < t.b) = false := decide_eq_false hnb
          have HS := Lib.hid (HBst.out.skip HT.out (fun _ => ⟨rfl, by omega⟩))
          clear hct htk hnb
          go_quiet (fail)
          go_wp2_with fail
          exact ⟨⟨k + 1, best, true, by simp, rfl, by omega, HS.out, below_dN HB5.out _, Z1.out, Z2.out⟩, by simp [intOf]; omega⟩
    · have q1 : decide ((k : Int) < (L.length : Int)) = false := decide_eq_false (by omega)
      obtain rfl : k = L.length := by omega
      obtain ⟨rfl, rfl⟩ := HE.out _ _ HBst.out
      have hp := (HH.out.below (HR.out ▸ HBr.out)).cell
      have bx := Hr2.out
      unfold Rt.robj at Hr1 Hr2
      unfold Rt.zero at Hr1
      simp only at Hr1 Hr2
      obtain ⟨b0, b1, b2, b3⟩ := RtAt.of_rheap bx
      clear bx
      go_wp2_with (refine wpList_store_row rfl 36 (.tmp 4) (.tmp 54) rfl R #[.int .u32 F.d, .int .i64 F.b, .int .u32 F.v, .int .i64 F.o] rfl rfl 36 _ Hr1.out rrSize rfl (rtRow_one _ _ _ _) ?_)
      go_wp2_with fail
      (try simp only [Exit.inBlock, Exit.then])
      refine bodyPost_ret (results_cell_tmp_row rfl _ _ R _ #[.int .u32 F.d, .int .i64 F.b, .int .u32 F.v, .int .i64 F.o] (0, 0) _ rfl (setRow_heap _ _ _ _ _ _ Hr1.out) Try.underlying36 rfl rrSize) rfl ?_
      refine ⟨rfl, ?_⟩
      rw [HR.out]
      exact below_setRow HBr.out (Nat.le_refl _) _
end Go.Proofs.Ytimpellpfnmicaa
