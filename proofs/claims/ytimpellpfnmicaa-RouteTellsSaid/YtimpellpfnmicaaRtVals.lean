/-
  What is proved: maps.Values of a table's map, and its iterator: the routes come, each once, in some order.
  Conditions: none.
-/
import Derived.Test.YtimpellpfnmicaaRtRight
import Derived.RangeFuncNested
import Derived.RangeFuncBound
import Derived.RangeFuncCalls
import Derived.RangeFuncLeaves
import Derived.RangeFuncOne
import Derived.Shelf.Abstract
import Derived.Shelf.RegionOpen
import Derived.WalkKit
import Derived.OwnWalkIn
import Derived.TacticsInMore
import Derived.LoopNIn
import Derived.LoopIn
import Derived.Sort.MapsRangeIn
import Derived.Sort.KeysCollected
namespace Go.Proofs.Ytimpellpfnmicaa
open Go.RowKit Go.Maps Go.Sort Go.Shelf

/-- What has come of a range over the table's map, and what is left. -/
structure Come (D : DataW Unit) (L : List Rt) (left : Lit → Bool) (cs : List Rt) : Prop where
  nodup : cs.Nodup
  mem : ∀ r ∈ cs, r ∈ L
  left_ : ∀ r ∈ L, left (klit r.d r.b) = false → r ∈ cs
  has : ∀ z, left z = true → Maps.has D z = true
  out : ∀ r ∈ cs, left (klit r.d r.b) = false
theorem Come.start {D : DataW Unit} {L : List Rt} (h : Reads D L) (hs : Srt L) (hr : ∀ r ∈ L, r.Right) : Come D L (Maps.has D) [] := by
  refine ⟨List.nodup_nil, (fun _ h => by cases h), fun r hm hf => ?_, fun _ h => h, (fun _ h => by cases h)⟩
  rw [h.has r.d r.b (hr r hm).i.d (hr r hm).i.b, look_mem hs hm ⟨rfl, rfl⟩] at hf
  cases hf
theorem sameKey_self (z : List UInt8) : (Lit.string z).sameKey (Lit.string z) = true := by simp [Lit.sameKey]
theorem Come.step {D : DataW Unit} {L : List Rt} {left : Lit → Bool} {cs : List Rt} (hC : Come D L left cs) (h : Reads D L) (hs : Srt L) (hr : ∀ r ∈ L, r.Right) {d b : Int} {c : Rt} (hd : U32 d) (hb : I64 b)
    (hl : left (klit d b) = true) (hat : ∀ z, D.atKey (klit d b) z = c.dat) : c ∈ L ∧ Come D L (fun z => left z && !z.sameKey (klit d b)) (cs ++ [c]) := by
  have h1 := hC.has _ hl
  rw [h.has d b hd hb] at h1
  obtain ⟨r, hr1⟩ := Option.isSome_iff_exists.1 h1
  have h2 := h.at_ d b r hd hb hr1 (.nil)
  rw [hat] at h2
  obtain rfl := Rt.dat_inj h2
  obtain ⟨hm, hk1, hk2⟩ := look_some hr1
  subst hk1 hk2
  refine ⟨hm, ?_, ?_, ?_, ?_, ?_⟩
  · refine List.nodup_append.2 ⟨hC.nodup, List.nodup_cons.2 ⟨by simp, List.nodup_nil⟩, ?_⟩
    intro a ha e he hae
    obtain rfl : e = c := by simpa using he
    subst hae
    have := hC.out a ha
    rw [hl] at this
    cases this
  · intro r hr'
    rcases List.mem_append.1 hr' with h' | h'
    · exact hC.mem r h'
    · obtain rfl : r = c := by simpa using h'
      exact hm
  · intro r hr' hf
    simp only [Bool.and_eq_false_iff, Bool.not_eq_false'] at hf
    rcases hf with hf | hf
    · exact List.mem_append.2 (.inl (hC.left_ r hr' hf))
    · have e : klit r.d r.b = klit c.d c.b := by
        by_cases e : klit r.d r.b = klit c.d c.b
        · exact e
        · rw [sameKey_ne e] at hf
          cases hf
      obtain ⟨e1, e2⟩ := klit_inj (hr r hr').i.d (hr r hr').i.b hd hb e
      exact List.mem_append.2 (.inr (by rw [srt_one hs hr' hm ⟨e1, e2⟩ ⟨rfl, rfl⟩]; simp))
  · intro z hz
    simp only [Bool.and_eq_true] at hz
    exact hC.has z hz.1
  · intro r hr'
    rcases List.mem_append.1 hr' with h' | h'
    · simp [hC.out r h']
    · obtain rfl : r = c := by simpa using h'
      simp [klit, sameKey_self]
theorem Come.perm {D : DataW Unit} {L : List Rt} {left : Lit → Bool} {cs : List Rt} (hC : Come D L left cs) (hs : Srt L) (hl : ∀ z, left z = false) : cs.Perm L := by
  refine (List.perm_ext_iff_of_nodup hC.nodup ?_).2 fun r => ⟨hC.mem r, fun h => hC.left_ r h (hl _)⟩
  exact hs.imp fun {a b} h e => by subst e; exact Lo.irrefl a h

theorem values_in (F : Fence) (n : Nat) (hf : F.fn 25) (hro : F.round = none) (mb : Option Nat) (w : World) :
    CallsIn F n Try.prog 25 #[.map mb] w fun e w' => e = .returned (.func (.func 30) #[] #[.pointer (some ⟨w.heap.size, 0, none⟩)]) ∧ w' = w.alloc (.cells #[.map mb] 56) := by
  refine callsIn_of_wp Try.func25 rfl hf ?_ hro
  simp only [Try.ntmps25, List.size_toArray, List.length_cons, List.length_nil, Nat.reduceAdd, Nat.reduceSub, Array.replicate_succ, Array.replicate_zero, List.push_toArray, List.append_toArray, List.nil_append, List.cons_append]
  gi_wp2
  go_ret
  exact ⟨rfl, rfl⟩

theorem keyInv : ∀ k kl, keyOf Try.prog 62 k = some kl → ∃ x : Int × Int, k = key x.1 x.2 := fun k kl h => by
  obtain ⟨d, b, h1, _⟩ := keyOf_inv h
  exact ⟨(d, b), h1⟩
theorem valInv : ∀ v y, rtElem v = some y → ∃ c : Rt, v = c.val := fun v y h => by
  obtain ⟨r, h1, _⟩ := rtElem_inv h
  exact ⟨r, h1⟩

set_option maxRecDepth 100000 in
set_option maxHeartbeats 1000000 in
/-- 'for _, v := range m { if !yield(v) { return } }', for every loop body. -/
theorem values1_in (F : Fence) (n : Nat) (hF : F.fn 30) (hro : F.round = none) (hn : 1 ≤ n) (l Bm b nn : Nat) (D : DataW Unit) (L : List Rt) (hD : Reads D L) (hs : Srt L) (hr : ∀ r ∈ L, r.Right) (J Jx : List Rt → World → Prop)
    (hY : ∀ pre x W, J pre W → pre.length < L.length → YieldAt F (n - 1) Try.prog l #[.agg #[.int .u32 x.d, .int .i64 x.b, .int .u32 x.v, .int .i64 x.o]] W fun e W' =>
      (e = .returned (.bool true) ∧ J (pre ++ [x]) W' ∧ KeepsWalks W W') ∨ (e = .returned (.bool false) ∧ Jx (pre ++ [x]) W'))
    (W : World) (hJ : AbidesFrom W.heap.size J) (hm : W.cell? ⟨Bm, 0, none⟩ = some (.map (some b))) (hown : W.ownsMap Try.prog 62 rtElem b nn D) (h0 : J [] W) :
    CallsIn F n Try.prog 30 #[.func (.yield l) #[] #[], .pointer (some ⟨Bm, 0, none⟩)] W fun e W' => (∃ v, e = .returned v) ∧
      ((∃ cs, cs.Perm L ∧ J cs W') ∨ (∃ pre, True ∧ Jx pre W')) := by
  refine callsIn_of_wp Try.func30 rfl hF ?_ hro
  simp only [Try.ntmps30, List.size_toArray, List.length_cons, List.length_nil, Nat.reduceAdd, Nat.reduceSub, Array.replicate_succ, Array.replicate_zero, List.push_toArray, List.append_toArray, List.nil_append, List.cons_append]
  gi_wp2_with (first
    | (gi_at_range; refine wpListIn_range_own _ rfl _ 56 rfl 62 33 rtK Try.underlying56 _ b nn _ rfl hown ?_; intro w0 hrg0 hg0 hs0)
    | gi_in)
  go_frame
  gi_loopw [4] (fun _ wr => ∃ (left : Lit → Bool) (cnt : Nat) (cs : List Rt), wr.ranges Try.prog 62 rtElem b W.heap.size nn D left cnt ∧ cs.length + cnt ≤ L.length ∧ Come D L left cs ∧ J cs wr)
    (fun _ wr => wr.rangeLeft b W.heap.size)
  case atStart =>
    exact ⟨_, _, [], hrg0, by rw [hD.size]; simp, Come.start hD hs hr, hJ [] W w0 none h0 hg0 (fun r e => by cases e)⟩
  case round =>
    obtain ⟨left, cnt, cs, hrg, hcs, hC, hJs⟩ := hrel
    gi_wp2_with (first
      | (gi_at_next; refine wpListIn_next_ranges _ rfl _ rfl 62 rtK rtElem (fun x : Int × Int => key x.1 x.2) Rt.val keyInv valInv b W.heap.size nn _ _ _ rfl hrg ?_ ?_)
      | gi_in)
    · intro hc0 hl0
      gi_wp2
      go_end0
      exact ⟨⟨_, rfl⟩, .inl ⟨cs, hC.perm hs hl0, hJs⟩⟩
    · intro x1 x2 c kl yd yp w2 cnt2 hkey hlk hv hat hrg2 hlt hg2 hs2 hen
      obtain ⟨d, b', hk1, rfl, hd, hb⟩ := keyOf_inv hkey
      obtain ⟨rfl, rfl⟩ : x1 = d ∧ x2 = b' := by simpa [key] using hk1
      have hat : ∀ z, D.atKey (klit x1 x2) z = c.dat := by
        rw [rtElem_val] at hv
        obtain ⟨rfl, _⟩ := Prod.mk.inj (Option.some.inj hv)
        exact hat
      obtain ⟨_, hC2⟩ := hC.step hD hs hr hd hb hlk hat
      unfold key Rt.val at hen
      have hJ2 : J cs w2 := hJ cs wr w2 (some W.heap.size) hJs hg2 (fun r e => by cases e; exact ⟨Nat.le_refl _, hrg.iter_walk⟩)
      have hJ3 := hJ cs w2 (w2.alloc (Obj.cells #[Value.int IntKind.u32 c.d, Value.int IntKind.i64 c.b, Value.int IntKind.u32 c.v, Value.int IntKind.i64 c.o] 33)) none hJ2 (World.grownBy_alloc w2 _ none) (fun r e => by cases e)
      obtain ⟨fn, tmps, assign, body, hy, hR⟩ := hY cs c _ hJ3 (by omega)
      clear hs2
      gi_wp2
      refine hR.mono ?_
      rintro e W3 (⟨rfl, hJ4, hk3⟩ | ⟨rfl, hJx3⟩)
      · gi_wp2
        have hrg3 := (hrg2.alloc _).of_walks hk3
        go_roundw
        case rel => exact ⟨_, cnt2, cs ++ [c], hrg3, by simp; omega, hC2, hJ4⟩
        case measure => rw [hrg3.left_eq, hrg.left_eq]; exact hlt
      · gi_wp2
        refine bodyPost_ret (results_none rfl _ _ _) rfl ?_
        exact ⟨⟨_, rfl⟩, .inr ⟨cs ++ [c], trivial, hJx3⟩⟩
end Go.Proofs.Ytimpellpfnmicaa
