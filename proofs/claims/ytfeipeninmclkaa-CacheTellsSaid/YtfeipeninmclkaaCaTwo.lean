/-
  What is proved: two caches side by side: what one does leaves the other alone; two rows of addresses compared (ips), by contract.
  Conditions: none.
-/
import Derived.Test.YtfeipeninmclkaaCaStep
import Derived.Deep.QuietTactic
import Derived.BigQuiet
namespace Go.Proofs.Ytfeipeninmclkaa
open Go.RowKit

structure Cz (w : World) (K : Nat → Prop) (W : World) (pa : Nat) (Fa : Nat → Prop) (La : List En) (pb : Nat) (Fb : Nat → Prop) (Lb : List En) : Prop where
  a : Ca W pa Fa La
  b : Ca W pb Fb Lb
  dis : ∀ k, Fa k → ¬ Fb k
  fa : ∀ k, Fa k → w.heap.size ≤ k ∧ ¬ K k
  fb : ∀ k, Fb k → w.heap.size ≤ k ∧ ¬ K k
  lt : ∀ k, K k → k < W.heap.size
  base : Below w.heap.size w W
section
variable {w W w' : World} {K : Nat → Prop} {pa pb : Nat} {Fa Fb Fa' : Nat → Prop} {La Lb La' : List En}
theorem Cz.swap (h : Cz w K W pa Fa La pb Fb Lb) : Cz w K W pb Fb Lb pa Fa La := ⟨h.b, h.a, fun k hb ha => h.dis k ha hb, h.fb, h.fa, h.lt, h.base⟩
theorem Cz.did (h : Cz w K W pa Fa La pb Fb Lb) (hC : Ca w' pa Fa' La') (hD : Did W w' Fa Fa') : Cz w K w' pa Fa' La' pb Fb Lb where
  a := hC
  b := h.b.at (fun k hk => hD.block k (h.b.flt k hk) (fun ha => h.dis k ha hk)) hD.size
  dis k hk hb := by
    rcases hD.new k hk with h1 | h1
    · exact h.dis k h1 hb
    · have := h.b.flt k hb; omega
  fa k hk := by
    rcases hD.new k hk with h1 | h1
    · exact h.fa k h1
    · exact ⟨Nat.le_trans h.base.size h1, fun hK => absurd (h.lt k hK) (by omega)⟩
  fb := h.fb
  lt k hk := Nat.lt_of_lt_of_le (h.lt k hk) hD.size
  base := hD.below h.base h.base.size (fun k hk => (h.fa k hk).1)
theorem Cz.keep (h : Cz w K W pa Fa La pb Fb Lb) (hD : Did W w' Fa Fa') : ∀ k, K k → w'.heap[k]? = W.heap[k]? := fun k hk => hD.block k (h.lt k hk) (fun ha => (h.fa k ha).2 hk)
/-- Memory beside the caches may turn. -/
theorem Cz.turn (h : Cz w K W pa Fa La pb Fb Lb) {g : Nat} (hos : w'.os = W.os) (ht : w'.tape = W.tape) (ho : w'.output = W.output) (hs : W.heap.size ≤ w'.heap.size) (hk : ∀ k, k < W.heap.size → k ≠ g → w'.heap[k]? = W.heap[k]?) (hg : w.heap.size ≤ g) (hK : K g) :
    Cz w K w' pa Fa La pb Fb Lb where
  a := h.a.at (fun k hf => hk k (h.a.flt k hf) (fun e => (h.fa k hf).2 (e ▸ hK))) hs
  b := h.b.at (fun k hf => hk k (h.b.flt k hf) (fun e => (h.fb k hf).2 (e ▸ hK))) hs
  dis := h.dis
  fa := h.fa
  fb := h.fb
  lt k hk := Nat.lt_of_lt_of_le (h.lt k hk) hs
  base := ⟨hos.trans h.base.os, ht.trans h.base.tape, ho.trans h.base.output, Nat.le_trans h.base.size hs, fun k hk' => (hk k (Nat.lt_of_lt_of_le hk' h.base.size) (by omega)).trans (h.base.block k hk')⟩
theorem Cz.new (h : Cz w K W pa Fa La pb Fb Lb) (hb : Below W.heap.size W w') : Cz w (fun k => K k ∨ W.heap.size ≤ k ∧ k < w'.heap.size) w' pa Fa La pb Fb Lb where
  a := h.a.below hb
  b := h.b.below hb
  dis := h.dis
  fa k hk := ⟨(h.fa k hk).1, by
    rintro (h1 | h1)
    · exact (h.fa k hk).2 h1
    · have := h.a.flt k hk; omega⟩
  fb k hk := ⟨(h.fb k hk).1, by
    rintro (h1 | h1)
    · exact (h.fb k hk).2 h1
    · have := h.b.flt k hk; omega⟩
  lt k hk := by
    rcases hk with h1 | h1
    · exact Nat.lt_of_lt_of_le (h.lt k h1) hb.size
    · exact h1.2
  base := below_to h.base hb h.base.size
theorem Cz.drop {K' : Nat → Prop} (h : Cz w K W pa Fa La pb Fb Lb) (hs : ∀ k, K' k → K k) : Cz w K' W pa Fa La pb Fb Lb :=
  ⟨h.a, h.b, h.dis, fun k hk => ⟨(h.fa k hk).1, fun k' => (h.fa k hk).2 (hs k k')⟩, fun k hk => ⟨(h.fb k hk).1, fun k' => (h.fb k hk).2 (hs k k')⟩, fun k hk => h.lt k (hs k hk), h.base⟩
theorem Cz.beside (h : Cz w K W pa Fa La pb Fb Lb) {g : Nat} (hb : Below W.heap.size W w') (h1 : W.heap.size ≤ g) (h2 : g < w'.heap.size) : Cz w (fun k => K k ∨ k = g) w' pa Fa La pb Fb Lb :=
  (h.new hb).drop fun k hk => hk.imp id (fun e => by omega)
theorem Cz.to (h : Cz w K W pa Fa La pb Fb Lb) (hb : Below W.heap.size W w') : Cz w K w' pa Fa La pb Fb Lb := (h.new hb).drop fun _ hk => Or.inl hk
end
theorem two_start {w w1 w2 w3 : World} {pa pb : Nat} (hB1 : Below w.heap.size w w1) (ha : Ca w2 pa (fun k => w1.heap.size ≤ k ∧ k < w1.heap.size + 2) []) (hBa : Below w1.heap.size w1 w2)
    (hb : Ca w3 pb (fun k => w2.heap.size ≤ k ∧ k < w2.heap.size + 2) []) (hBb : Below w2.heap.size w2 w3) : ∃ Fa Fb, Cz w (fun _ => False) w3 pa Fa [] pb Fb [] :=
  ⟨_, _, ha.below hBb, hb, fun k hk hk2 => by have := ha.flt k hk; omega, fun k hk => ⟨by have := hB1.size; omega, fun h => h⟩, fun k hk => ⟨by have := hB1.size; have := hBa.size; omega, fun h => h⟩, fun k hk => hk.elim,
    below_to (below_to hB1 hBa hB1.size) hBb (Nat.le_trans hB1.size hBa.size)⟩
/-- A row of bytes of one's own, to be written over. -/
def PRow (W : World) (g n : Nat) : Prop := ∃ cur : Array Value, W.heap[g]? = some (.cells cur 5 (0, 0)) ∧ n ≤ cur.size ∧ ∀ i v, i < n → cur[i]? = some v → ∃ x : Int, v = .int .u8 x
theorem PRow.at {W W' : World} {g n : Nat} (h : PRow W g n) (hg : W'.heap[g]? = W.heap[g]?) : PRow W' g n := by
  obtain ⟨cur, h1, h2⟩ := h
  exact ⟨cur, hg.trans h1, h2⟩
theorem PRow.get {W : World} {g n i : Nat} (h : PRow W g n) (hi : i < n) : ∃ x : Int, W.cell? ⟨g, i, none⟩ = some (.int .u8 x) ∧ W.frozen? ⟨g, i, none⟩ = false := by
  obtain ⟨cur, h1, h2, h3⟩ := h
  have hv : cur[i]? = some cur[i] := Array.getElem?_eq_getElem (by omega)
  obtain ⟨x, hx⟩ := h3 i _ hi hv
  refine ⟨x, ?_, ?_⟩
  · rw [hx] at hv
    simp [World.cell?, h1, hv]
  · simp [World.frozen?, h1]
theorem PRow.set {W : World} {g n i : Nat} (h : PRow W g n) (y : Int) : PRow (W.setCell ⟨g, i, none⟩ (.int .u8 y)) g n := by
  obtain ⟨cur, h1, h2, h3⟩ := h
  refine ⟨cur.setIfInBounds i (.int .u8 y), ?_, by simpa using h2, fun j v hj hv => ?_⟩
  · rw [Sort.setCell_eq]
    simp [Sort.mapBlock, Array.getElem?_modify, h1, Sort.onCells]
  · by_cases e : i = j
    · subst e
      have hl : i < (cur.setIfInBounds i (.int .u8 y)).size := (Array.getElem?_eq_some_iff.1 hv).1
      rw [Array.getElem?_setIfInBounds_self] at hv
      rw [if_pos (by simpa using hl)] at hv
      exact ⟨y, (Option.some.inj hv).symm⟩
    · rw [Array.getElem?_setIfInBounds_ne e] at hv
      exact h3 j v hj hv
theorem set_frame {W : World} {g i : Nat} {v : Value} : ∀ k, k < W.heap.size → k ≠ g → (W.setCell ⟨g, i, none⟩ v).heap[k]? = W.heap[k]? := fun k _ hk => Below.heap_setCell _ _ _ k (fun e => hk (by rw [e]))
theorem u8Info : (Try.prog.info? 5).map (fun i => (i.zero, i.size, i.bytes)) = some (some (.int .u8 0), 1, 1) := by kernel_rfl
/-- 'append([]byte{}, x...)': a row of one's own with the same bytes. -/
theorem app_copy (W : World) {u : Value} {bs : List UInt8} (h : Rd W u bs) (hbig : bs.length ≤ 140737488355328) (ty : TypeId) :
    ∃ g c W', (Builtin.append_ #[35, 35] ty #[.slice (some ⟨W.heap.size, 0, none⟩) 0 0, u]).run Try.prog (W.alloc (.cells #[] 5)) = .ok (.slice (some ⟨g, 0, none⟩) bs.length c) W' ∧
      W.heap.size ≤ g ∧ g < W'.heap.size ∧ PRow W' g bs.length ∧ Rd W' (.slice (some ⟨g, 0, none⟩) bs.length c) bs ∧ Below W.heap.size W W' := by
  have hnew := heap_alloc_new W (.cells #[] 5)
  have hb1 : Below W.heap.size W (W.alloc (.cells #[] 5)) := (Below.refl _ W).alloc (Nat.le_refl _) _
  have hown : (W.alloc (.cells #[] 5)).ownsRow W.heap.size 5 1 (.slice (some ⟨W.heap.size, 0, none⟩) 0 0) 0 [] :=
    ⟨rfl, .inr ⟨_, _, _, rfl, Nat.le_refl _, hnew, Nat.le_refl _, by simp [maxLen], rfl, rfl⟩⟩
  obtain ⟨i0, hi, hz0, hz1, hz2⟩ := info_parts u8Info
  obtain ⟨A, c, rfl, hc, hcell⟩ := id h
  cases A with
  | none =>
    have hx : bs = [] := by
      rcases Nat.eq_zero_or_pos bs.length with h0 | h0
      · exact List.eq_nil_of_length_eq_zero h0
      · obtain ⟨g, o, e, _⟩ := hcell h0
        cases e
    subst hx
    have hr : (Builtin.append_ #[35, 35] ty #[.slice (some ⟨W.heap.size, 0, none⟩) 0 0, .slice none 0 c]).run Try.prog (W.alloc (.cells #[] 5)) = .ok (.slice (some ⟨W.heap.size, 0, none⟩) 0 0) (W.alloc (.cells #[] 5)) := by
      simp [Builtin.append_, run_underlying Try.underlying35, sizeOf, typeInfo, hi, Builtin.lenOf, Builtin.firstCells, storeCells]
    exact ⟨_, _, _, hr, Nat.le_refl _, by simp, ⟨_, hnew, Nat.zero_le _, fun i v hi => absurd hi (by simp)⟩, ⟨_, _, rfl, Nat.le_refl _, fun h => absurd h (by simp)⟩, hb1⟩
  | some a =>
    obtain ⟨v', W', hr, ho, hg, hnil, hat⟩ := run_append_own_at (P := Try.prog) (W.alloc (.cells #[] 5)) W.heap.size 35 ty 5 i0 (.int .u8 0) 1 1 Try.underlying35 hi hz0 hz1 hz2 rfl (by omega) _ 0 [] hown a bs.length c (bs.map B8) (by simp)
      (fun j u hu => by
        rw [List.getElem?_map] at hu
        cases hx : bs[j]? with
        | none => rw [hx] at hu; cases hu
        | some x =>
          rw [hx] at hu
          have hj := (List.getElem?_eq_some_iff.1 hx).1
          obtain ⟨g, o, e, hr⟩ := hcell (by omega)
          cases e
          have h1 := hr j x hx
          rw [Addr.add_lit, ← Option.some.inj hu]
          exact (hb1.cell (World.block_lt_of_cell? W _ h1)).trans h1)
      (fun u hu => by
        obtain ⟨x, _, rfl⟩ := List.mem_map.1 hu
        rfl) (by simp only [maxLen]; omega) (by omega) (by simp)
    rw [Nat.zero_add, List.nil_append] at ho
    rcases ho.2 with ⟨rfl, _⟩ | ⟨g, cap, cur, rfl, hg1, hg2, hg3, hg4, hg5, hg6⟩
    · have := (hnil.1 rfl).1
      cases this
    · have hlt := (Array.getElem?_eq_some_iff.1 hg2).1
      refine ⟨g, cap, W', hr, hg1, hlt, ⟨cur, hg2, by omega, fun i v hi hv => ?_⟩, ⟨_, cap, rfl, hg3, fun _ => ⟨g, 0, rfl, fun i x hx => ?_⟩⟩, ⟨hg.os, hg.tape, hg.output, Nat.le_trans hb1.size hg.size, fun k hk => (hg.block k (Nat.lt_of_lt_of_le hk hb1.size) (fun e => by have e2 : k = W.heap.size := Option.some.inj e; omega)).trans (hb1.block k hk)⟩⟩
      · have h1 : (cur.toList.take (bs.length * 1))[i]? = some v := by
          rw [List.getElem?_take, if_pos (by omega)]
          simpa using hv
        rw [hg6, List.getElem?_map] at h1
        cases hx : bs[i]? with
        | none => rw [hx] at h1; cases h1
        | some x =>
          rw [hx] at h1
          exact ⟨_, (Option.some.inj h1).symm⟩
      · rw [Nat.zero_add]
        exact owns_cell ho (by rw [List.getElem?_map, hx]; rfl)
theorem learn_few {L : List En} {ip : Int} (h : ∀ e ∈ L, e.Ok) : (learnP L ip).length ≤ 4 := by
  unfold learnP
  cases hl : look L ip with
  | none => simp
  | some e => exact (h e (look_some hl).1).few
theorem slice_inj {A B : Option Addr} {n m c d : Nat} (h : Value.slice A n c = .slice B m d) : A = B ∧ n = m ∧ c = d := by
  cases h
  exact ⟨rfl, rfl, rfl⟩
/-- Packets told: each cell, and its bytes. -/
def TextsAt (w : World) (sv : Value) (pk : List (List UInt8)) : Prop := ∀ i x, pk[i]? = some x → ∃ (g c : Nat), sv = .slice (some ⟨g, 0, none⟩) pk.length c ∧ ∃ (B : Option Addr) (d : Nat), w.cell? ⟨g, i, none⟩ = some (.slice B x.length d) ∧ Rd w (.slice B x.length d) x
theorem Pks.texts {w : World} {F : Nat → Prop} {sv : Value} {pk : List (List UInt8)} (h : Pks w F sv pk) : TextsAt w sv pk := fun i x hx => by
  have hn : pk ≠ [] := fun e => by rw [e] at hx; simp at hx
  obtain ⟨g, c, rfl, hc⟩ := h.cells hn
  obtain ⟨v, hv, hr⟩ := hc i x hx
  obtain ⟨B, d, rfl, _⟩ := id hr
  exact ⟨g, c, rfl, B, d, hv, hr⟩
theorem tick_few {L : List En} {now : Int} (h : L.length ≤ 32) : (tickA L now).length ≤ 9223372036854775807 := by
  have : (tickA L now).length ≤ L.length := by
    unfold tickA
    rw [List.length_map]
    exact List.length_filter_le _ _
  omega
/-- A row of addresses that a slice value holds. -/
def IpsAt (W : World) (v : Value) (l : List Int) : Prop := ∃ A c, v = .slice A l.length c ∧ ∀ i x, l[i]? = some x → ∃ g, A = some ⟨g, 0, none⟩ ∧ W.cell? ⟨g, i, none⟩ = some (.int .u32 x)
theorem IpsAt.of {W : World} {B : Nat} {v : Value} {l : List Int} (h : W.ownsRow B 32 1 v l.length (l.map (Value.int .u32))) : IpsAt W v l := by
  obtain ⟨A, c, rfl, hA⟩ := owns_shape h
  refine ⟨A, c, rfl, fun i x hi => ?_⟩
  have hl := (List.getElem?_eq_some_iff.1 hi).1
  obtain ⟨g, rfl⟩ := hA (by omega)
  exact ⟨g, rfl, owns_cell h (by rw [List.getElem?_map, hi]; rfl)⟩
theorem IpsAt.below {W W' : World} {v : Value} {l : List Int} (h : IpsAt W v l) (hb : Below W.heap.size W W') : IpsAt W' v l := by
  obtain ⟨A, c, rfl, hA⟩ := h
  exact ⟨A, c, rfl, fun i x hi => by
    obtain ⟨g, rfl, hg⟩ := hA i x hi
    exact ⟨g, rfl, (hb.cell (World.block_lt_of_cell? W _ hg)).trans hg⟩⟩

set_option maxRecDepth 100000 in
set_option maxHeartbeats 4000000 in
theorem ips_any (l : List Int) (hl : l.length ≤ 9223372036854775807) (u v : Value) (w : World) (hu : IpsAt w u l) (hv : IpsAt w v l) : Calls Try.prog 18 #[u, v] w fun e w' => e = .returned (.bool true) ∧ Below w.heap.size w w' := by
  obtain ⟨A, c, rfl, hA⟩ := hu
  obtain ⟨B, d, rfl, hB⟩ := hv
  have HA := Lib.hid hA
  have HB := Lib.hid hB
  clear hA hB
  go_enter Try.func18, Try.ntmps18
  go_wp2_with fail
  go_loopw [5] (fun s5 wr => ∃ k : Nat, s5 = .int .i64 (k : Int) ∧ k ≤ l.length ∧ Below w.heap.size w wr) (fun s5 _ => l.length - (intOf s5).toNat)
  case atStart => exact ⟨0, rfl, Nat.zero_le _, Below.refl _ _⟩
  case round =>
    obtain ⟨k, rfl, hk, hbr⟩ := hrel
    have Hbr := Lib.hid hbr
    clear hbr
    by_cases hlt : k < l.length
    · have q1 : decide ((k : Int) < (l.length : Int)) = true := decide_eq_true (by omega)
      have hi : l[k]? = some l[k] := List.getElem?_eq_getElem hlt
      obtain ⟨g1, rfl, h1⟩ := HA.out k _ hi
      obtain ⟨g2, rfl, h2⟩ := HB.out k _ hi
      generalize l[k] = x at h1 h2
      have h1 := (Hbr.out.cell (World.block_lt_of_cell? w _ h1)).trans h1
      have h2 := (Hbr.out.cell (World.block_lt_of_cell? w _ h2)).trans h2
      clear hi
      go_upto_region 6 with fail
      go_quiet (fail)
      go_wp2_with fail
      exact ⟨⟨k + 1, by simp, by omega, below_dN Hbr.out _⟩, by simp [intOf]; omega⟩
    · have q1 : decide ((k : Int) < (l.length : Int)) = false := decide_eq_false (by omega)
      go_wp2_with fail
      go_ret
      exact ⟨rfl, Hbr.out⟩
end Go.Proofs.Ytfeipeninmclkaa
