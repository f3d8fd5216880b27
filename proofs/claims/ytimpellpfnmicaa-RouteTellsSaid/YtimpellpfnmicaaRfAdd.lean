/-
  What is proved: the document's Add by contract.
  Conditions: the route's numbers fit their types.
-/
import Derived.Test.YtimpellpfnmicaaRfFind
import Derived.Test.YtimpellpfnmicaaLawRtOrder
import Derived.StillTailTactics
import Derived.Deep.MidRow
import Derived.Deep.Upon
namespace Go.Proofs.Ytimpellpfnmicaa
open Go.RowKit

theorem put_set : ∀ (L : List Rt) (k : Nat) (s r : Rt), Srt L → L[k]? = some s → Same r.d r.b s → putL L r = L.set k r
  | [], _, _, _, _, h, _ => by simp at h
  | x :: l, 0, s, r, hs, h, hk => by
    obtain rfl : x = s := by simpa using h
    have h1 : ¬ Lo x r := fun e => e.ne r.d r.b ⟨hk, rfl, rfl⟩
    have h2 : ¬ Lo r x := fun e => e.ne r.d r.b ⟨⟨rfl, rfl⟩, hk⟩
    unfold putL
    rw [if_neg h1, if_neg h2]
    rfl
  | x :: l, k + 1, s, r, hs, h, hk => by
    obtain ⟨ha, hb⟩ := List.pairwise_cons.1 hs
    have h' : l[k]? = some s := by simpa using h
    have h0 := ha s (List.mem_of_getElem? h')
    have h1 : Lo x r := by unfold Lo Same at *; omega
    unfold putL
    rw [if_pos h1, put_set l k s r hb h' hk]
    rfl
theorem put_split : ∀ (L : List Rt) (k : Nat) (r : Rt), k ≤ L.length → (∀ s ∈ L.take k, Lo s r) → (∀ s, L[k]? = some s → Lo r s) → putL L r = L.take k ++ (r :: L.drop k)
  | [], 0, r, _, _, _ => rfl
  | x :: l, 0, r, _, _, h => by
    have h1 := h x rfl
    have h2 : ¬ Lo x r := fun e => Lo.irrefl x (e.trans h1)
    unfold putL
    rw [if_neg h2, if_pos h1]
    rfl
  | [], k + 1, r, h, _, _ => by simp at h
  | x :: l, k + 1, r, hk, ht, hd => by
    have h1 := ht x (by simp)
    unfold putL
    rw [if_pos h1, put_split l k r (by simpa using hk) (fun s hs => ht s (by simp [hs])) (fun s hs => hd s (by simpa using hs))]
    rfl

/-- What the document's table does to memory: its cell and its old row alone. -/
structure Mv (w w' : World) (p : Nat) (v : Value) : Prop where
  os : w'.os = w.os
  tape : w'.tape = w.tape
  output : w'.output = w.output
  size : w.heap.size ≤ w'.heap.size
  block : ∀ k, k < w.heap.size → k ≠ p → some k ≠ v.ownBlock → w'.heap[k]? = w.heap[k]?
theorem Mv.of_below {w w' : World} {p : Nat} {v : Value} (h : Below w.heap.size w w') : Mv w w' p v := ⟨h.os, h.tape, h.output, h.size, fun k hk _ _ => h.block k hk⟩
theorem Mv.trans {a b c : World} {p : Nat} {v : Value} (h : Mv a b p v) (k : Mv b c p v) : Mv a c p v :=
  ⟨k.os.trans h.os, k.tape.trans h.tape, k.output.trans h.output, Nat.le_trans h.size k.size, fun i hi h1 h2 => (k.block i (Nat.lt_of_lt_of_le hi h.size) h1 h2).trans (h.block i hi h1 h2)⟩
theorem setCells_tape (b : Nat) : ∀ (vs : List Value) (o : Nat) (w : World), (w.setCells b o vs).tape = w.tape
  | [], _, _ => rfl
  | v :: r, o, w => by rw [World.setCells, setCells_tape b r]; rfl
theorem setCells_size (b : Nat) : ∀ (vs : List Value) (o : Nat) (w : World), (w.setCells b o vs).heap.size = w.heap.size
  | [], _, _ => rfl
  | v :: r, o, w => by rw [World.setCells, setCells_size b r]; simp [World.setCell]
theorem Mv.setCells {w : World} {p g : Nat} {v : Value} (hv : v.ownBlock = some g) (o : Nat) (vs : List Value) : Mv w (w.setCells g o vs) p v :=
  ⟨World.os_setCells w g o vs, setCells_tape g vs o w, World.output_setCells w g o vs, Nat.le_of_eq (setCells_size g vs o w).symm, fun k hk _ h2 => World.heap_setCells_other w g o vs hk (fun e => h2 (by rw [hv, e]))⟩

section
variable {w : World} {p B : Nat} {v : Value} {L : List Rt}
theorem Rf.apart (h : Rf w p B v L) {g i : Nat} {kd : IntKind} {x : Int} (hc : w.cell? ⟨g, i, none⟩ = some (.int kd x)) : g ≠ p := by
  obtain ⟨A, c, rfl, _⟩ := h.row
  rintro rfl
  simp only [World.cell?, h.blk] at hc
  cases i with
  | zero => simp at hc
  | succ i => simp at hc
/-- t.L[k] = r. -/
theorem Rf.set (h : Rf w p B v L) {k : Nat} {s r : Rt} (hk : L[k]? = some s) (hr : r.Right) (hsm : Same r.d r.b s) : ∃ g o c, v = .slice (some ⟨g, o, none⟩) L.length c ∧ w.there g (o + k * 4) 4 ∧ Rf (w.setCells g (o + k * 4) [.int .u32 r.d, .int .i64 r.b, .int .u32 r.v, .int .i64 r.o]) p B v (putL L r) := by
  have hp := put_set L k s r h.srt hk hsm
  obtain ⟨A, c, rfl, h1, h2, h3, h4, _⟩ := h.row
  obtain ⟨g, o, rfl, c0, c1, c2, c3⟩ := h3 k s hk
  obtain ⟨k1, k2, k3⟩ := h4 _ rfl
  have hgp := h.apart c0
  have ht : w.there g (o + k * 4) 4 := fun j hj => by
    refine ⟨?_, k3 _⟩
    rcases (show j = 0 ∨ j = 1 ∨ j = 2 ∨ j = 3 by omega) with rfl | rfl | rfl | rfl
    · rw [Nat.add_zero, c0]; rfl
    · rw [c1]; rfl
    · rw [c2]; rfl
    · rw [c3]; rfl
  have hln : (putL L r).length = L.length := by rw [hp, List.length_set]
  refine ⟨g, o, c, rfl, ht, ⟨(World.heap_setCells_other w g _ _ h.lt (fun e => hgp e.symm)).trans h.blk, ⟨_, c, by rw [hln], by rw [hln]; exact h1, h2, ?_, ?_, .inr ⟨g, o, rfl⟩⟩, srt_put h.srt r, ?_, by rw [hln]; exact h.few⟩⟩
  · intro j t hj
    rw [hp, List.getElem?_set] at hj
    refine ⟨g, o, rfl, ?_⟩
    by_cases e : k = j
    · subst e
      have hlt := (List.getElem?_eq_some_iff.1 hk).1
      rw [if_pos rfl, if_pos hlt] at hj
      obtain rfl : r = t := by simpa using hj
      have hs := World.rangeAt_setCells_same w g (o + k * 4) [.int .u32 r.d, .int .i64 r.b, .int .u32 r.v, .int .i64 r.o] ht
      exact ⟨hs 0 _ rfl, hs 1 _ rfl, hs 2 _ rfl, hs 3 _ rfl⟩
    · rw [if_neg e] at hj
      obtain ⟨g', o', e', d0, d1, d2, d3⟩ := h3 j t hj
      cases e'
      have ha : ∀ i, i < 4 → (w.setCells g (o + k * 4) [.int .u32 r.d, .int .i64 r.b, .int .u32 r.v, .int .i64 r.o]).cell? ⟨g, o + j * 4 + i, none⟩ = w.cell? ⟨g, o + j * 4 + i, none⟩ := fun i hi =>
        World.cell?_setCells_out g _ _ w _ (fun _ _ => by
          show o + j * 4 + i < o + k * 4 ∨ o + k * 4 + 4 ≤ o + j * 4 + i
          omega)
      exact ⟨(ha 0 (by omega)).trans d0, (ha 1 (by omega)).trans d1, (ha 2 (by omega)).trans d2, (ha 3 (by omega)).trans d3⟩
  · intro a ha
    cases ha
    exact ⟨k1, by rw [setCells_size]; exact k2, fun j => by rw [World.frozen?_setCells]; exact k3 j⟩
  · intro t ht
    rcases (mem_put h.srt r t).1 ht with rfl | ⟨h5, _⟩
    · exact hr
    · exact h.right t h5
end

set_option maxRecDepth 100000 in
set_option maxHeartbeats 2000000 in
theorem radd_bad (L : List Rt) (r : Rt) (hr : r.In) (hok : r.ok = false) (p B : Nat) (v : Value) (w : World) (h : Rf w p B v L) :
    Calls Try.prog 11 #[.pointer (some ⟨p, 0, none⟩), .agg #[.int .u32 r.d, .int .i64 r.b, .int .u32 r.v, .int .i64 r.o]] w fun e w' => e = .returned (.int .i64 1) ∧ Below w.heap.size w w' := by
  obtain ⟨y, hy⟩ : ∃ y, cutI r.d r.b = y := ⟨_, rfl⟩
  have hcut := Lib.hid (fun W => rcut_any r.d r.b hr.d hr.b W)
  rw [hy] at hcut
  have B1 := Lib.hid ((Below.refl _ w).alloc (Nat.le_refl _) r.robj)
  have R1 := Lib.hid (RtAt.of_rheap (heap_alloc_new w r.robj))
  unfold Rt.robj at B1 R1
  have hb : Hid (decide (r.b < 0) = false → decide (32 < r.b) = false → (y != r.d) = true) := Lib.hid (fun h1 h2 => by
    have h1 := of_decide_eq_false h1
    have h2 := of_decide_eq_false h2
    unfold Rt.ok at hok
    rw [hy, show decide (0 ≤ r.b) = true from decide_eq_true (by omega), show decide (r.b ≤ 32) = true from decide_eq_true (by omega)] at hok
    simp at hok
    simp [hok])
  obtain ⟨q1, h1⟩ : ∃ q, decide (r.b < 0) = q := ⟨_, rfl⟩
  obtain ⟨q2, h2⟩ : ∃ q, decide (32 < r.b) = q := ⟨_, rfl⟩
  rw [h1, h2] at hb
  clear hy hok hr h
  go_enter Try.func11, Try.ntmps11
  go_upto_region 1 with fail
  generalize w.alloc (Obj.cells #[Value.int IntKind.u32 r.d, Value.int IntKind.i64 r.b, Value.int IntKind.u32 r.v, Value.int IntKind.i64 r.o] 36) = w1 at B1 R1 ⊢
  generalize w.heap.size = g at R1 ⊢
  obtain ⟨c0, c1, c2, c3⟩ := R1.out
  cases q1 with
  | true =>
    go_quiet ((go_at_call 12; exact Calls.quiet_of_same (hcut.out _)))
    go_wp2_with fail
    go_ret
    exact ⟨rfl, below_dN B1.out _⟩
  | false =>
    cases q2 with
    | true =>
      go_quiet ((go_at_call 12; exact Calls.quiet_of_same (hcut.out _)))
      go_wp2_with fail
      go_ret
      exact ⟨rfl, below_dN B1.out _⟩
    | false =>
      have q3 := hb.out rfl rfl
      go_quiet ((go_at_call 12; exact Calls.quiet_of_same (hcut.out _)))
      go_wp2_with fail
      go_ret
      exact ⟨rfl, below_dN B1.out _⟩
end Go.Proofs.Ytimpellpfnmicaa
