/-
  What is proved: maps.Keys of a cache's map, slices.Collect and slices.Sorted over them: a new slice holds the cache's addresses, rising.
  Conditions: at most 32 entries.
-/
import Derived.Test.YtfeipeninmclkaaCaMap
import Derived.Test.YtfeipeninmclkaaCsSort
import Derived.RangeFuncNested
import Derived.RangeFuncBound
import Derived.RangeFuncCalls
import Derived.RangeFuncLeaves
import Derived.RangeFuncOne
import Derived.Shelf.Abstract
import Derived.Shelf.RegionOpen
import Derived.WalkKit
import Derived.OwnWalkIn
import Derived.TacticsInMore
import Derived.LoopNIn
import Derived.LoopIn
import Derived.Sort.MapsRangeIn
import Derived.Sort.KeysCollected
import Derived.Maps.AppendAt
namespace Go.Proofs.Ytfeipeninmclkaa
open Go.RowKit Go.Maps Go.Sort Go.Shelf

attribute [local go_sem] Oper.semAt_some

/-- What has come of a range over the cache's map, and what is left. -/
structure Come (D : DataW Unit) (L : List En) (left : Lit → Bool) (cs : List Int) : Prop where
  nodup : cs.Nodup
  mem : ∀ k ∈ cs, ∃ e ∈ L, e.ip = k
  left_ : ∀ e ∈ L, left (klit e.ip) = false → e.ip ∈ cs
  has : ∀ z, left z = true → Maps.has D z = true
  out : ∀ k ∈ cs, left (klit k) = false
theorem Come.start {D : DataW Unit} {rep : Rep} {L : List En} (h : Reads D rep L) (hs : Srt L) : Come D L (Maps.has D) [] := by
  refine ⟨List.nodup_nil, (fun _ h => by cases h), fun e hm hf => ?_, fun _ h => h, (fun _ h => by cases h)⟩
  rw [h.has e.ip, look_mem hs hm rfl] at hf
  cases hf
theorem sameKey_ip (k : Int) : (klit k).sameKey (klit k) = true := by simp [klit, Lit.sameKey]
theorem Come.step {D : DataW Unit} {rep : Rep} {L : List En} {left : Lit → Bool} {cs : List Int} (hC : Come D L left cs) (h : Reads D rep L) (_ : Srt L) {k : Int}
    (hl : left (klit k) = true) : Come D L (fun z => left z && !z.sameKey (klit k)) (cs ++ [k]) := by
  have h1 := hC.has _ hl
  rw [h.has k] at h1
  obtain ⟨e, he⟩ := Option.isSome_iff_exists.1 h1
  obtain ⟨hm, hk⟩ := look_some he
  refine ⟨?_, ?_, ?_, ?_, ?_⟩
  · refine List.nodup_append.2 ⟨hC.nodup, List.nodup_cons.2 ⟨by simp, List.nodup_nil⟩, ?_⟩
    intro a ha b hb hab
    obtain rfl : b = k := by simpa using hb
    subst hab
    have := hC.out a ha
    rw [hl] at this
    cases this
  · intro j hj
    rcases List.mem_append.1 hj with h' | h'
    · exact hC.mem j h'
    · obtain rfl : j = k := by simpa using h'
      exact ⟨e, hm, hk⟩
  · intro f hf' hf
    simp only [Bool.and_eq_false_iff, Bool.not_eq_false'] at hf
    rcases hf with hf | hf
    · exact List.mem_append.2 (.inl (hC.left_ f hf' hf))
    · have e : klit f.ip = klit k := by
        by_cases e : klit f.ip = klit k
        · exact e
        · rw [sameKey_ne e] at hf
          cases hf
      exact List.mem_append.2 (.inr (by simp [klit_inj e]))
  · intro z hz
    simp only [Bool.and_eq_true] at hz
    exact hC.has z hz.1
  · intro j hj
    rcases List.mem_append.1 hj with h' | h'
    · simp [hC.out j h']
    · obtain rfl : j = k := by simpa using h'
      simp [sameKey_ip]
theorem Come.perm {D : DataW Unit} {L : List En} {left : Lit → Bool} {cs : List Int} (hC : Come D L left cs) (hs : Srt L) (hl : ∀ z, left z = false) : cs.Perm (L.map (·.ip)) := by
  refine (List.perm_ext_iff_of_nodup hC.nodup ?_).2 fun k => ⟨fun hk => ?_, fun hk => ?_⟩
  · refine List.pairwise_map.2 (hs.imp fun {a b} h e => by omega)
  · obtain ⟨e, he, rfl⟩ := hC.mem k hk
    exact List.mem_map.2 ⟨e, he, rfl⟩
  · obtain ⟨e, he, rfl⟩ := List.mem_map.1 hk
    exact hC.left_ e he (hl _)

theorem keys_in (F : Fence) (n : Nat) (hf : F.fn 37) (hro : F.round = none) (mb : Option Nat) (w : World) :
    CallsIn F n Try.prog 37 #[.map mb] w fun e w' => e = .returned (.func (.func 41) #[] #[.pointer (some ⟨w.heap.size, 0, none⟩)]) ∧ w' = w.alloc (.cells #[.map mb] 63) := by
  refine callsIn_of_wp Try.func37 rfl hf ?_ hro
  simp only [Try.ntmps37, List.size_toArray, List.length_cons, List.length_nil, Nat.reduceAdd, Nat.reduceSub, Array.replicate_succ, Array.replicate_zero, List.push_toArray, List.append_toArray, List.nil_append, List.cons_append]
  gi_wp2
  go_ret
  exact ⟨rfl, rfl⟩

theorem keyOf_ip_inv {v : Value} {l : Lit} (h : keyOf Try.prog 32 v = some l) : ∃ k, v = .int .u32 k ∧ l = klit k ∧ U32 k := by
  cases v <;> simp [keyOf, Try.underlying32, mapKey] at h
  obtain ⟨⟨rfl, hw⟩, rfl⟩ := h
  exact ⟨_, rfl, rfl, U32.of hw⟩
theorem keyInv : ∀ k kl, keyOf Try.prog 32 k = some kl → ∃ x : Int, k = .int .u32 x := fun k kl h => by
  obtain ⟨x, h1, _⟩ := keyOf_ip_inv h
  exact ⟨x, h1⟩
theorem valInv : ∀ v y, enElem v = some y → ∃ c : Raw, v = c.val := fun v y h => by
  obtain ⟨r, h1, _⟩ := enElem_inv h
  exact ⟨r, h1⟩

set_option maxRecDepth 100000 in
set_option maxHeartbeats 1000000 in
/-- 'for k := range m { if !yield(k) { return } }', for every loop body. -/
theorem keys1_in (F : Fence) (n : Nat) (hF : F.fn 41) (hro : F.round = none) (hn : 1 ≤ n) (l Bm b nn : Nat) (D : DataW Unit) (rep : Rep) (L : List En) (hD : Reads D rep L) (hs : Srt L) (J Jx : List Int → World → Prop)
    (hY : ∀ pre x W, J pre W → pre.length < L.length → YieldAt F (n - 1) Try.prog l #[.int .u32 x] W fun e W' =>
      (e = .returned (.bool true) ∧ J (pre ++ [x]) W' ∧ KeepsWalks W W') ∨ (e = .returned (.bool false) ∧ Jx (pre ++ [x]) W'))
    (W : World) (hJ : AbidesFrom W.heap.size J) (hm : W.cell? ⟨Bm, 0, none⟩ = some (.map (some b))) (hown : W.ownsMap Try.prog 32 enElem b nn D) (h0 : J [] W) :
    CallsIn F n Try.prog 41 #[.func (.yield l) #[] #[], .pointer (some ⟨Bm, 0, none⟩)] W fun e W' => (∃ v, e = .returned v) ∧
      ((∃ cs, cs.Perm (L.map (·.ip)) ∧ J cs W') ∨ (∃ pre, True ∧ Jx pre W')) := by
  refine callsIn_of_wp Try.func41 rfl hF ?_ hro
  simp only [Try.ntmps41, List.size_toArray, List.length_cons, List.length_nil, Nat.reduceAdd, Nat.reduceSub, Array.replicate_succ, Array.replicate_zero, List.push_toArray, List.append_toArray, List.nil_append, List.cons_append]
  gi_wp2_with (first
    | (gi_at_range; refine wpListIn_range_own _ rfl _ 63 rfl 32 71 caK Try.underlying63 _ b nn _ rfl hown ?_; intro w0 hrg0 hg0 hs0)
    | gi_in)
  go_frame
  gi_loopw [3] (fun _ wr => ∃ (left : Lit → Bool) (cnt : Nat) (cs : List Int), wr.ranges Try.prog 32 enElem b W.heap.size nn D left cnt ∧ cs.length + cnt ≤ L.length ∧ Come D L left cs ∧ J cs wr)
    (fun _ wr => wr.rangeLeft b W.heap.size)
  case atStart =>
    exact ⟨_, _, [], hrg0, by rw [hD.size]; simp, Come.start hD hs, hJ [] W w0 none h0 hg0 (fun r e => by cases e)⟩
  case round =>
    obtain ⟨left, cnt, cs, hrg, hcs, hC, hJs⟩ := hrel
    gi_wp2_with (first
      | (gi_at_next; refine wpListIn_next_ranges _ rfl _ rfl 32 caK enElem (fun x : Int => .int .u32 x) Raw.val keyInv valInv b W.heap.size nn _ _ _ rfl hrg ?_ ?_)
      | gi_in)
    · intro hc0 hl0
      gi_wp2
      go_end0
      exact ⟨⟨_, rfl⟩, .inl ⟨cs, hC.perm hs hl0, hJs⟩⟩
    · intro x c kl yd yp w2 cnt2 hkey hlk hv hat hrg2 hlt hg2 hs2 hen
      obtain ⟨k, hk1, rfl, hk⟩ := keyOf_ip_inv hkey
      obtain rfl : x = k := by simpa using hk1
      have hC2 := hC.step hD hs hlk
      have hJ2 : J cs w2 := hJ cs wr w2 (some W.heap.size) hJs hg2 (fun r e => by cases e; exact ⟨Nat.le_refl _, hrg.iter_walk⟩)
      obtain ⟨fn, tmps, assign, body, hy, hR⟩ := hY cs x _ hJ2 (by omega)
      clear hs2
      gi_wp2
      refine hR.mono ?_
      rintro e W3 (⟨rfl, hJ4, hk3⟩ | ⟨rfl, hJx3⟩)
      · gi_wp2
        have hrg3 := hrg2.of_walks hk3
        go_roundw
        case rel => exact ⟨_, cnt2, cs ++ [x], hrg3, by simp; omega, hC2, hJ4⟩
        case measure => rw [hrg3.left_eq, hrg.left_eq]; exact hlt
      · gi_wp2
        refine bodyPost_ret (results_none rfl _ _ _) rfl ?_
        exact ⟨⟨_, rfl⟩, .inr ⟨cs ++ [x], trivial, hJx3⟩⟩
end Go.Proofs.Ytfeipeninmclkaa
