/-
  What is proved: slices.Collect, slices.Sorted over a cache's keys, and (*cache.Cache).rising: a new slice holds the addresses, rising.
  Conditions: at most 32 entries.
-/
import Derived.Test.YtfeipeninmclkaaCaRise
namespace Go.Proofs.Ytfeipeninmclkaa
open Go.RowKit Go.Maps Go.Shelf

/-- A slice of addresses, laid in blocks from B on. -/
def IpsIn (w : World) (B : Nat) (A : Option Addr) (l : List Int) : Prop := ∀ i k, l[i]? = some k → ∃ g, A = some ⟨g, 0, none⟩ ∧ B ≤ g ∧ w.cell? ⟨g, i, none⟩ = some (.int .u32 k)
theorem IpsIn.below {w w' : World} {B : Nat} {A : Option Addr} {l : List Int} (h : IpsIn w B A l) (hb : Below w.heap.size w w') : IpsIn w' B A l := fun i k hk => by
  obtain ⟨g, h1, h2, h3⟩ := h i k hk
  exact ⟨g, h1, h2, (hb.cell (World.block_lt_of_cell? w _ h3)).trans h3⟩
theorem IpsIn.grown {w w' : World} {B q : Nat} {A : Option Addr} {l : List Int} (h : IpsIn w B A l) (hb : w.grownBy w' (some q)) (hq : q < B) : IpsIn w' B A l := fun i k hk => by
  obtain ⟨g, h1, h2, h3⟩ := h i k hk
  refine ⟨g, h1, h2, ?_⟩
  rw [← h3]
  unfold World.cell?
  rw [hb.block g (World.block_lt_of_cell? w _ h3) (fun e => by cases e; omega)]

theorem collect_any (Bm b nn : Nat) (D : DataW Unit) (rep : Rep) (L : List En) (hD : Reads D rep L) (hs : Srt L) (hfew : L.length ≤ 32) (w : World) (hBm : Bm < w.heap.size)
    (hm : w.cell? ⟨Bm, 0, none⟩ = some (.map (some b))) (hown : w.ownsMap Try.prog 32 enElem b nn D) :
    Calls Try.prog 39 #[.func (.func 41) #[] #[.pointer (some ⟨Bm, 0, none⟩)]] w fun e W' => ∃ v cs, e = .returned v ∧ cs.Perm (L.map (·.ip)) ∧ W'.ownsRow w.heap.size 32 1 v cs.length (cs.map (Value.int .u32)) ∧ (v = .slice none 0 0 ↔ cs = []) ∧ Below w.heap.size w W' := by
  have X := Lib.hid (callsIn_wide.1 (appendSeq_in Fence.wide 3 trivial trivial rfl (Nat.le_refl _) Bm b nn D rep L hD hs hfew w hBm hm hown))
  clear hD hs hm hown
  go_enter Try.func39, Try.ntmps39
  go_wp2_with (go_at_call 42; refine X.out.mono ?_; rintro e w' ⟨v, cs, rfl, h1, h2, h3, h4⟩)
  go_ret
  exact ⟨v, cs, rfl, h1, h2, h3, h4⟩

theorem holds_of_owns {w : World} {base g cap : Nat} {cs : List Int} (h : w.ownsRow base 32 1 (.slice (some ⟨g, 0, none⟩) cs.length cap) cs.length (cs.map (Value.int .u32))) : Sort.Holds (Value.int .u32) w g 0 cs.toArray ∧ g < w.heap.size ∧ base ≤ g ∧ cs.length ≤ cap ∧ cap ≤ maxLen := by
  rcases h.2 with ⟨h1, _⟩ | ⟨g', cap', cur, hv, hb, hg, h1, h2, h3, h4⟩
  · cases h1
  · cases hv
    refine ⟨fun t ht => ?_, (Array.getElem?_eq_some_iff.1 hg).1, hb, h1, h2⟩
    have ht' : t < cs.length := by simpa using ht
    have e : (cs.map (Value.int .u32))[t]? = some (.int .u32 cs[t]) := by simp [ht']
    rw [← h4, List.getElem?_take_of_lt (by omega), Array.getElem?_toList] at e
    rw [Nat.zero_add]
    constructor
    · simp only [World.cell?, hg]
      rw [e]
      simp [ht']
    · simp [World.frozen?, hg]
def RiseAt (L : List En) (w : World) (e : Ending) (W' : World) : Prop :=
  ∃ A c, e = .returned (.slice A L.length c) ∧ L.length ≤ c ∧ c ≤ 9223372036854775807 ∧ IpsIn W' w.heap.size A (L.map (·.ip)) ∧ Below w.heap.size w W'
set_option maxHeartbeats 1000000 in
theorem sorted_any (Bm b nn : Nat) (D : DataW Unit) (rep : Rep) (L : List En) (hD : Reads D rep L) (hs : Srt L) (hfew : L.length ≤ 32) (w : World) (hBm : Bm < w.heap.size)
    (hm : w.cell? ⟨Bm, 0, none⟩ = some (.map (some b))) (hown : w.ownsMap Try.prog 32 enElem b nn D) :
    Calls Try.prog 36 #[.func (.func 41) #[] #[.pointer (some ⟨Bm, 0, none⟩)]] w (RiseAt L w) := by
  have X := Lib.hid (collect_any Bm b nn D rep L hD hs hfew w hBm hm hown)
  have HS := Lib.hid hs
  have HN := Lib.hid hfew
  clear hD hs hm hown hfew
  go_enter Try.func36, Try.ntmps36
  go_upto_region 2 with (go_at_call 39; refine X.out.mono ?_; rintro e w2 ⟨v, cs, rfl, h1, h2, h3, h4⟩)
  have H1 := Lib.hid h1
  have H4 := Lib.hid h4
  by_cases hc : cs = []
  · subst hc
    obtain rfl : v = .slice none 0 0 := h3.2 rfl
    have hL : L = [] := by
      have := h1.symm.eq_nil
      simpa using this
    have HL := Lib.hid hL
    clear h1 h2 h3 h4 hL
    go_wp2_with (go_at_call 40; refine (sort_nil _ _).mono ?_; rintro e w3 ⟨rfl, rfl⟩)
    go_ret
    have hL := HL.out
    subst hL
    exact ⟨none, 0, rfl, Nat.le_refl _, by omega, (fun k r hk => by simp at hk), H4.out⟩
  · have hpos : ∃ k, cs.length = k + 1 := ⟨cs.length - 1, by have := List.length_pos_iff.2 hc; omega⟩
    obtain ⟨g, cap, rfl⟩ : ∃ g cap, v = .slice (some ⟨g, 0, none⟩) cs.length cap := by
      obtain ⟨k, hk⟩ := hpos
      rw [hk] at h2 ⊢
      exact ownsRow_succ h2
    obtain ⟨hH, hg, hbase, hcap, hmax⟩ := holds_of_owns h2
    have hlen : cs.length = L.length := by rw [h1.length_eq]; simp
    have hnd : (L.map (·.ip)).Nodup := List.pairwise_map.2 (HS.out.imp fun {a b} h e => by omega)
    have Y := Lib.hid (sort_any g 0 cap cs.length cs.toArray w2 hH (by simp) (by have := HN.out; omega) (by simpa using h1.nodup_iff.2 hnd))
    rw [hlen] at Y hcap ⊢
    have HG := Lib.hid (And.intro hbase (And.intro hcap hmax))
    clear h1 h2 h3 h4 hH hg hbase hcap hmax hpos hlen hnd
    go_wp2_with (go_at_call 40; refine Y.out.mono ?_; rintro e w3 ⟨d', rfl, h5, h6, h7⟩; (have H5 := Lib.hid h5); (have H6 := Lib.hid h6); (have H7 := Lib.hid h7); clear h5 h6 h7)
    go_ret
    obtain ⟨hb, hc1, hc2⟩ := HG.out
    have hd : d'.toList = L.map (·.ip) := by
      refine List.Perm.eq_of_pairwise (le := fun a b => a ≤ b) (fun a b _ _ h1 h2 => by omega) (H6.out.imp fun h => by omega) (List.pairwise_map.2 (HS.out.imp fun h => by omega)) ?_
      exact H5.out.trans (by simpa using H1.out)
    refine ⟨some ⟨g, 0, none⟩, cap, rfl, hc1, by unfold maxLen at hc2; omega, fun i k hk => ⟨g, rfl, hb, ?_⟩, H4.out.grown H7.out.go H4.out.size (fun k e => by cases e; exact hb)⟩
    rw [← hd, Array.getElem?_toList] at hk
    obtain ⟨hi, he⟩ := Array.getElem?_eq_some_iff.1 hk
    have c := (H7.out.row i hi).1
    rw [Nat.zero_add, getElem!_pos d' i hi, he] at c
    exact c

set_option maxHeartbeats 1000000 in
theorem rising_any (L : List En) (p b : Nat) (F : Nat → Prop) (rep : Rep) (x : Option Int) (w : World) (h : Tab w p b F rep x L) :
    Calls Try.prog 31 #[.pointer (some ⟨p, 0, none⟩)] w (RiseAt L w) := by
  have V := Lib.hid (fun W => callsIn_wide.1 (keys_in Fence.wide 3 trivial rfl (some b) W))
  obtain ⟨D, hown, hD⟩ := h.own
  have hB := (Below.refl _ w).alloc (Nat.le_refl _) (.cells #[.map (some b)] 63)
  have X := Lib.hid (sorted_any w.heap.size b L.length D rep L hD h.srt h.few (w.alloc (.cells #[.map (some b)] 63)) (by simp) (by unfold World.cell?; rw [heap_alloc_new w (.cells #[.map (some b)] 63)]; rfl) (hown.alloc _))
  have HB := Lib.hid hB
  have hc := h.cell
  clear h hown hD hB
  go_enter Try.func31, Try.ntmps31
  go_wp2_with (first
    | (go_at_call 37; refine (V.out _).mono ?_; rintro e w2 ⟨rfl, rfl⟩)
    | (go_at_call 36; refine X.out.mono ?_; rintro e w3 ⟨A, c, rfl, h1, h2, h3, h4⟩; (have H3 := Lib.hid h3); (have H4 := Lib.hid h4); clear h3 h4))
  go_ret
  refine ⟨A, c, rfl, h1, h2, fun i k hk => ?_, below_to HB.out H4.out HB.out.size⟩
  obtain ⟨g, e1, e2, e3⟩ := H3.out i k hk
  exact ⟨g, e1, by simp at e2; omega, e3⟩
end Go.Proofs.Ytfeipeninmclkaa
