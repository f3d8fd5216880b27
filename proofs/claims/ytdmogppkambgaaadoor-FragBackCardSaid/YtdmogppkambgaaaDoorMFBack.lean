/-
  What is proved: what one part more does to a reassembler that holds parts of two packets; the reassembler beside a law's own array that is written over behind New.
  Conditions: package frag's contracts, handed in.
  What is proved: what one part more does to a reassembler, in whatever order the parts of one packet come, and when one comes again; parts of parts (no program's text).
  Conditions: package frag's contracts say so of its relation.
  What is proved: a row of packets of the law's own: parts appended to it, two of them changing places; how many parts there are.
  Conditions: none of its own.
  What is proved: arguments that are slices of numbers or of bools, opened (beside a packet).
  Conditions: none of its own.
  What is proved: FragBack by contract, out of those of package frag: the law returns true, and older memory is as it was.
  Conditions: those of the arguments; package frag's contracts, and that of 'shown', handed in.
  What is proved: the row and the tied card of FragBack out of its function's contract.
  Conditions: the contract, handed in; the listed package-level variables start as the program's text lays them (the card ties them).
  What is proved: FragBack: for any packet, MTUs, order and repetitions the parts are whole again, once; the law returns true and leaves its arguments as they were (the tied card).
  Conditions: the listed package-level variables start as the program's text lays them (the card ties them).
-/
import Derived.Test.YtdmogppkambgaaaDoorMFg
import Derived.Test.YtdmogppkambgaaaDoorMFs
import Derived.Deep.MidRow
import Derived.Deep.Upon
import Derived.Test.YtdmogppkambgaaaDoorVLift
import Derived.Deep.Slices
import Derived.Deep.DeepCutAuto
import Derived.Deep.CutBlock
import Derived.Deep.RegionHeldLaw
import Derived.Test.YtdmogppkambgaaaDoorCards
import Derived.Test.YtdmogppkambgaaaDoorTie
import Derived.SevenTiedAt
namespace Go.Proofs.YtdmogppkambgaaaDoor
open Go.RowKit

/-- The parts of a packet that wait when j of them have come in order. -/
def seenJ (L : List Ip) (j : Nat) : List Ip := if L.length < 2 ∨ L.length ≤ j then [] else L.take j
theorem seenJ_zero (L : List Ip) : seenJ L 0 = [] := by unfold seenJ; split <;> simp
theorem seenJ_all (L : List Ip) : seenJ L L.length = [] := by unfold seenJ; simp
theorem HeapIs.other {S S' : List Hp} {k : Ky} {t : Int} {seen : List Ip} (h : HeapIs S k t seen) (e : hget S' k = hget S k) : HeapIs S' k t seen := by
  unfold HeapIs
  rw [e]
  exact h
theorem two_step {P x : Ip} {L : List Ip} {S S' : List Hp} {o : Option Ip} {c j : Nat} {b : Bool} (h0 : P.off = 0) (hm : P.mf = false) (hbad : P.bad = 0) (h1 : L.length = 1 → L = [P]) (h2 : 2 ≤ L.length → P.b ≠ [] ∧ Tile P 0 L ∧ ∀ x ∈ L, x.bad = 0)
    (hU : Un S) (h8 : S.length < 8) (hx : L[j]? = some x) (hH : HeapIs S P.key4 1 (seenJ L j)) (hT : TakeR S x 1 S' o c b) :
    c = 0 ∧ b = false ∧ o = (if j + 1 = L.length then some P else none) ∧ HeapIs S' P.key4 1 (seenJ L (j + 1)) ∧ S'.length + (if seenJ L j = [] then 0 else 1) = S.length + (if seenJ L (j + 1) = [] then 0 else 1) ∧ x.key4 = P.key4 := by
  have hj : j < L.length := (List.getElem?_eq_some_iff.1 hx).1
  by_cases hl : L.length < 2
  · have e := h1 (by omega)
    subst e
    have hj0 : j = 0 := by simp at hj; exact hj
    subst hj0
    obtain rfl : P = x := by simpa using hx
    obtain ⟨rfl, rfl, rfl, rfl⟩ := alone_take hbad ⟨h0, hm⟩ hT
    have e : ∀ i, seenJ [P] i = [] := fun i => by unfold seenJ; simp
    rw [e] at hH
    refine ⟨rfl, rfl, by simp, by rw [e]; exact hH, by rw [e, e], rfl⟩
  · obtain ⟨hb, hTl, hr⟩ := h2 (by omega)
    have es : seenJ L j = L.take j := by unfold seenJ; rw [if_neg (by omega)]
    have hxm : x ∈ L := List.mem_of_getElem? hx
    have hk := (tile_part h0 hm hTl (by omega) hxm).2
    rw [es] at hH ⊢
    have TT := take_tile h0 hm hb hTl (by omega) hr hU h8 hH (fun y hy => List.mem_of_mem_take hy) hxm (fun _ => rfl) hT
    by_cases hje : j + 1 = L.length
    · have hall : ∀ y ∈ L, y ∈ L.take j ∨ y = x := fun y hy => by
        obtain ⟨i, hi⟩ := List.getElem?_of_mem hy
        have hil := (List.getElem?_eq_some_iff.1 hi).1
        by_cases hij : i < j
        · exact .inl (take_mem hi hij)
        · obtain rfl : i = j := by omega
          rw [hx] at hi
          exact .inr (Option.some.inj hi).symm
      obtain ⟨ho, rfl, rfl, hn, hl2⟩ := TT.1 hall
      have e : seenJ L (j + 1) = [] := by rw [hje]; exact seenJ_all L
      rw [e]
      refine ⟨rfl, rfl, by rw [if_pos hje]; exact ho, .inl ⟨rfl, hn⟩, by simpa using hl2, hk⟩
    · have hj1 : j + 1 < L.length := by omega
      have hy : L[j + 1]? = some (L[j + 1]'hj1) := List.getElem?_eq_getElem hj1
      obtain ⟨ho, rfl, rfl, hn, hl2⟩ := TT.2 ⟨_, List.mem_of_getElem? hy, fun h => by
        rcases h with h | h
        · exact take_lt hTl.nodup hy (by omega) h
        · rw [h] at hy
          have := nodup_inj hTl.nodup hx hy
          omega⟩
      have e : seenJ L (j + 1) = L.take j ++ [x] := by
        unfold seenJ
        rw [if_neg (by omega), List.take_add_one, hx]
        rfl
      rw [e]
      refine ⟨rfl, rfl, by rw [if_neg hje]; exact ho, hn, ?_, hk⟩
      rw [hl2]
      by_cases hs : L.take j = [] <;> simp [hs]

/-- A reassembler beside older memory, one block of which is the law's own to write over. -/
structure Gx (R : World → Nat → (Nat → Prop) → Int → List Hp → Prop) (w : World) (H : Nat) (W : World) (r : Nat) (tm : Int) (S : List Hp) : Prop where
  ex : ∃ F, R W r F tm S ∧ ∀ k, F k → w.heap.size ≤ k
  lt : H < w.heap.size
  os : W.os = w.os
  tape : W.tape = w.tape
  output : W.output = w.output
  size : w.heap.size ≤ W.heap.size
  old : ∀ k, k < w.heap.size → k ≠ H → W.heap[k]? = w.heap[k]?
section
variable {R : World → Nat → (Nat → Prop) → Int → List Hp → Prop} {w W w' : World} {H r : Nat} {tm now : Int} {S : List Hp}
theorem Gx.new (X : FgOk R) (hH : H < W.heap.size) (htm : UW tm) : Calls Tryd.prog 20 #[.int .u64 tm] W fun e w' => ∃ r : Nat, e = .returned (.pointer (some ⟨r, 0, none⟩)) ∧ Gx R W H w' r tm [] ∧ w'.heap[H]? = W.heap[H]? := by
  refine (X.new tm W htm).mono ?_
  rintro e w' ⟨r, F, rfl, hR, hF, hB⟩
  exact ⟨r, rfl, ⟨⟨F, hR, hF⟩, hH, hB.os, hB.tape, hB.output, hB.size, fun k hk _ => hB.block k hk⟩, hB.block H hH⟩
theorem Gx.to (X : FgOk R) (h : Gx R w H W r tm S) (hb : Below W.heap.size W w') : Gx R w H w' r tm S := by
  obtain ⟨F, hR, hF⟩ := h.ex
  exact ⟨⟨F, X.at_ hR (fun k hk => hb.block k (X.flt hR k hk)) hb.size, hF⟩, h.lt, hb.os.trans h.os, hb.tape.trans h.tape, hb.output.trans h.output, Nat.le_trans h.size hb.size, fun k hk hn => (hb.block k (Nat.lt_of_lt_of_le hk h.size)).trans (h.old k hk hn)⟩
theorem Gx.un (X : FgOk R) (h : Gx R w H W r tm S) : Un S ∧ S.length ≤ 8 := by
  obtain ⟨F, hR, _⟩ := h.ex
  exact X.un hR
theorem Gx.set (X : FgOk R) (h : Gx R w H W r tm S) (i : Nat) (v : Value) : Gx R w H (W.setCell ⟨H, i, none⟩ v) r tm S := by
  obtain ⟨F, hR, hF⟩ := h.ex
  have hne : ∀ k, k ≠ H → (W.setCell ⟨H, i, none⟩ v).heap[k]? = W.heap[k]? := fun k hk => Below.heap_setCell _ _ _ _ hk
  have hz : (W.setCell ⟨H, i, none⟩ v).heap.size = W.heap.size := by simp
  exact ⟨⟨F, X.at_ hR (fun k hk => hne k (by have := hF k hk; have := h.lt; omega)) (Nat.le_of_eq hz.symm), hF⟩, h.lt, h.os, h.tape, h.output, by rw [hz]; exact h.size, fun k hk hn => (hne k hn).trans (h.old k hk hn)⟩
theorem Gx.take (X : FgOk R) (h : Gx R w H W r tm S) {p : Ip} {A : Option Addr} {c : Nat} (hp : p.In) (hl : p.b.length ≤ 2000) (hn : UW now) (hc : c ≤ 9223372036854775807) (hr : Rd W (.slice A p.b.length c) p.b) (hA : p.b ≠ [] → ∀ a, A = some a → a.block < w.heap.size) :
    Calls Tryd.prog 21 #[.pointer (some ⟨r, 0, none⟩), .agg #[.int .u8 p.tos, .int .u16 p.id, .bool p.df, .bool p.mf, .int .i64 p.off, .int .u8 p.ttl, .int .u8 p.proto, .int .u32 p.src, .int .u32 p.dst, .slice A p.b.length c], .int .u64 now] W fun e w' =>
      ∃ S' o n b, TakeR S p now S' o n b ∧ TakeVal o n b e w' ∧ Gx R w H w' r tm S' ∧ w'.heap[H]? = W.heap[H]? := by
  obtain ⟨F, hR, hF⟩ := h.ex
  refine (X.take S p now tm r F A c W hR hp hl hn hc hr (fun hb a ha hFa => by have := hF _ hFa; have := hA hb a ha; omega)).mono ?_
  rintro e w' ⟨S', o, n, b, F', hT, hV, hR', hD, _⟩
  refine ⟨S', o, n, b, hT, hV, ⟨⟨F', hR', fun k hk => ?_⟩, h.lt, hD.os.trans h.os, hD.tape.trans h.tape, hD.output.trans h.output, Nat.le_trans h.size hD.size, fun k hk hn => (hD.block k (Nat.lt_of_lt_of_le hk h.size) (fun e => by have := hF k e; omega)).trans (h.old k hk hn)⟩,
    hD.block H (Nat.lt_of_lt_of_le h.lt h.size) (fun e => by have := hF H e; have := h.lt; omega)⟩
  rcases hD.new k hk with e | e
  · exact hF k e
  · exact Nat.le_trans h.size e
theorem Gx.len (X : FgOk R) (h : Gx R w H W r tm S) : Calls Tryd.prog 22 #[.pointer (some ⟨r, 0, none⟩)] W fun e w' => e = .returned (.int .i64 (S.length : Int)) ∧ w' = W := by
  obtain ⟨F, hR, _⟩ := h.ex
  exact X.len S tm r F W hR
theorem Gx.below {w0 : World} (h : Gx R w H W r tm S) (hb : Below w0.heap.size w0 w) (hH : w0.heap.size ≤ H) : Below w0.heap.size w0 W :=
  ⟨h.os.trans hb.os, h.tape.trans hb.tape, h.output.trans hb.output, Nat.le_trans hb.size h.size, fun k hk => (h.old k (Nat.lt_of_lt_of_le hk hb.size) (by omega)).trans (hb.block k hk)⟩
/-- Older bytes beside it. -/
theorem Gx.rd (h : Gx R w H W r tm S) {A : Option Addr} {c : Nat} {bs : List UInt8} (hr : Rd w (.slice A bs.length c) bs) (hn : bs ≠ [] → ∀ a, A = some a → a.block ≠ H) : Rd W (.slice A bs.length c) bs := by
  by_cases hb : bs = []
  · subst hb
    obtain ⟨A', c', e, hc, _⟩ := hr
    exact ⟨A', c', e, hc, fun h0 => absurd h0 (by simp)⟩
  · obtain ⟨x, rfl⟩ := rd_some hr (List.length_pos_iff.2 hb)
    exact rd_blk hr (h.old x.block (rd_old hr hb x rfl) (hn hb x rfl))
end
end Go.Proofs.YtdmogppkambgaaaDoor
namespace Go.Proofs.YtdmogppkambgaaaDoor

/-- All parts of a packet, in whatever order. -/
structure Parts (P : Ip) (L : List Ip) : Prop where
  one : L.length = 1 → L = [P]
  more : 2 ≤ L.length → P.b ≠ [] ∧ (∃ T, Tile P 0 T ∧ L.Perm T) ∧ ∀ x ∈ L, x.bad = 0
  ne : 0 < L.length
theorem Parts.perm {P : Ip} {L L' : List Ip} (h : Parts P L) (hp : L'.Perm L) : Parts P L' := by
  have hl := hp.length_eq
  refine ⟨fun h1 => ?_, fun h2 => ?_, by have := h.ne; omega⟩
  · have e := h.one (by omega)
    rw [e] at hp
    exact List.perm_singleton.1 hp
  · obtain ⟨hb, ⟨T, hT, hLT⟩, hr⟩ := h.more (by omega)
    exact ⟨hb, ⟨T, hT, hp.trans hLT⟩, fun x hx => hr x (hp.mem_iff.1 hx)⟩
theorem plain_part {p : Ip} {mtu : Int} (hm : 68 ≤ mtu) {x : Ip} (hx : x ∈ splitL p.plain mtu) : x.bad = 0 ∧ x.df = false := by
  obtain ⟨pos, h⟩ := fit_row hm p.plain_bad
  obtain ⟨h1, _, h3, _⟩ := h.mem hx
  exact ⟨h1, h3⟩
theorem splitC_part {x : Ip} {m2 : Int} (hm : 68 ≤ m2) (hb : x.bad = 0) (hd : x.df = false) : splitC x m2 = 0 := by
  unfold splitC
  rw [if_neg (by omega), if_neg (by rw [hb]; simp), hd]
  split <;> rfl
theorem parts_of (p : Ip) {mtu m2 : Int} (hm : 68 ≤ mtu) (hm2 : 68 ≤ m2) : Parts p.plain ((splitL p.plain mtu).flatMap fun x => splitL x m2) := by
  by_cases hb : p.plain.b = []
  · have e : ∀ m : Int, 68 ≤ m → splitL p.plain m = [p.plain] := fun m h => by
      unfold splitL
      rw [if_pos (by rw [hb]; show 20 + ((0 : Nat) : Int) ≤ m; omega)]
    rw [e mtu hm, List.flatMap_cons, e m2 hm2, List.flatMap_nil, List.append_nil]
    exact ⟨fun _ => rfl, fun h => by simp at h, by simp⟩
  · have hT := splitL_tile p.plain hm hb
    have hA : Tile p.plain 0 ((splitL p.plain mtu).flatMap fun x => splitL x m2) := Tile.refine _ _ hT fun x hx => by
      obtain ⟨c, n, _, h1, h2, rfl⟩ := hT.mem hx
      refine splitL_tile _ hm2 (fun e => ?_)
      have := seg_len_in h2
      rw [e] at this
      simp at this
      omega
    generalize hA' : ((splitL p.plain mtu).flatMap fun x => splitL x m2) = all at hA ⊢
    have hr : ∀ x ∈ all, x.bad = 0 := fun x hx => by
      rw [← hA'] at hx
      obtain ⟨y, hy, hx⟩ := List.mem_flatMap.1 hx
      obtain ⟨pos, h⟩ := fit_row hm2 (plain_part hm hy).1
      exact (h.mem hx).1
    refine ⟨fun h1 => ?_, fun _ => ⟨hb, ⟨all, hA, List.Perm.refl _⟩, hr⟩, ?_⟩
    · match all, h1, hA with
      | [x], _, ⟨n, h1, h2, hx, h3⟩ =>
        have h4 : 0 + n = p.plain.b.length := h3
        rw [Nat.zero_add] at h4
        rw [hx, h4, seg_all]
    · cases all with
      | nil =>
        have h4 : 0 = p.plain.b.length := hA
        exact absurd (List.eq_nil_of_length_eq_zero h4.symm) hb
      | cons x l => simp
theorem HeapIs.congr {S : List Hp} {k : Ky} {t : Int} {s1 s2 : List Ip} (h : HeapIs S k t s1) (hm : ∀ x, x ∈ s1 ↔ x ∈ s2) : HeapIs S k t s2 := by
  rcases h with ⟨rfl, e⟩ | ⟨b, e, h1, h2, h3⟩
  · refine .inl ⟨List.eq_nil_iff_forall_not_mem.2 fun x hx => ?_, e⟩
    have := (hm x).2 hx
    cases this
  · refine .inr ⟨b, e, h1, fun x => (h2 x).trans (hm x), fun e2 => h3 ?_⟩
    exact List.eq_nil_iff_forall_not_mem.2 fun x hx => by
      have := (hm x).1 hx
      rw [e2] at this
      cases this
section
variable {P x : Ip} {L : List Ip} {S S' : List Hp} {o : Option Ip} {c j : Nat} {b : Bool} {t0 : Int}
theorem back_step (h0 : P.off = 0) (hm : P.mf = false) (hbad : P.bad = 0) (hP : Parts P L) (hU : Un S) (h8 : S.length < 8) (hx : L[j]? = some x) (hH : HeapIs S P.key4 t0 (seenJ L j)) (hT : TakeR S x t0 S' o c b) :
    c = 0 ∧ b = false ∧ o = (if j + 1 = L.length then some P else none) ∧ HeapIs S' P.key4 t0 (seenJ L (j + 1)) ∧ S'.length + (if seenJ L j = [] then 0 else 1) = S.length + (if seenJ L (j + 1) = [] then 0 else 1) := by
  have hj : j < L.length := (List.getElem?_eq_some_iff.1 hx).1
  by_cases hl : L.length < 2
  · have e := hP.one (by omega)
    subst e
    have hj0 : j = 0 := by simp at hj; exact hj
    subst hj0
    obtain rfl : P = x := by simpa using hx
    obtain ⟨rfl, rfl, rfl, rfl⟩ := alone_take hbad ⟨h0, hm⟩ hT
    have e : ∀ i, seenJ [P] i = [] := fun i => by unfold seenJ; simp
    rw [e] at hH
    refine ⟨rfl, rfl, by simp, by rw [e]; exact hH, by rw [e, e]⟩
  · obtain ⟨hb, ⟨T, hTl, hLT⟩, hr⟩ := hP.more (by omega)
    have hT2 : 2 ≤ T.length := by have := hLT.length_eq; omega
    have hnd : L.Nodup := hLT.nodup_iff.2 hTl.nodup
    have hrT : ∀ y ∈ T, y.bad = 0 := fun y hy => hr y (hLT.mem_iff.2 hy)
    have es : seenJ L j = L.take j := by unfold seenJ; rw [if_neg (by omega)]
    have hxm : x ∈ L := List.mem_of_getElem? hx
    rw [es] at hH ⊢
    have TT := take_tile h0 hm hb hTl hT2 hrT hU h8 hH (fun y hy => hLT.mem_iff.1 (List.mem_of_mem_take hy)) (hLT.mem_iff.1 hxm) (fun _ => rfl) hT
    by_cases hje : j + 1 = L.length
    · have hall : ∀ y ∈ T, y ∈ L.take j ∨ y = x := fun y hy => by
        obtain ⟨i, hi⟩ := List.getElem?_of_mem (hLT.mem_iff.2 hy)
        have hil := (List.getElem?_eq_some_iff.1 hi).1
        by_cases hij : i < j
        · exact .inl (take_mem hi hij)
        · obtain rfl : i = j := by omega
          rw [hx] at hi
          exact .inr (Option.some.inj hi).symm
      obtain ⟨ho, rfl, rfl, hn, hl2⟩ := TT.1 hall
      have e : seenJ L (j + 1) = [] := by rw [hje]; exact seenJ_all L
      rw [e]
      exact ⟨rfl, rfl, by rw [if_pos hje]; exact ho, .inl ⟨rfl, hn⟩, by simpa using hl2⟩
    · have hj1 : j + 1 < L.length := by omega
      have hy : L[j + 1]? = some (L[j + 1]'hj1) := List.getElem?_eq_getElem hj1
      obtain ⟨ho, rfl, rfl, hn, hl2⟩ := TT.2 ⟨_, hLT.mem_iff.1 (List.mem_of_getElem? hy), fun h => by
        rcases h with h | h
        · exact take_lt hnd hy (by omega) h
        · rw [h] at hy
          have := nodup_inj hnd hx hy
          omega⟩
      have e : seenJ L (j + 1) = L.take j ++ [x] := by
        unfold seenJ
        rw [if_neg (by omega), List.take_add_one, hx]
        rfl
      rw [e]
      refine ⟨rfl, rfl, by rw [if_neg hje]; exact ho, hn, ?_⟩
      rw [hl2]
      by_cases hs : L.take j = [] <;> simp [hs]
/-- One that comes again, while another one is not there. -/
theorem back_again {now : Int} (h0 : P.off = 0) (hm : P.mf = false) (hP : Parts P L) (hU : Un S) (h8 : S.length < 8) (hx : L[j]? = some x) (hj1 : j + 1 < L.length) (hH : HeapIs S P.key4 t0 (seenJ L (j + 1))) (hT : TakeR S x now S' o c b) :
    c = 0 ∧ b = false ∧ o = none ∧ HeapIs S' P.key4 t0 (seenJ L (j + 1)) ∧ S'.length = S.length := by
  obtain ⟨hb, ⟨T, hTl, hLT⟩, hr⟩ := hP.more (by omega)
  have hT2 : 2 ≤ T.length := by have := hLT.length_eq; omega
  have hnd : L.Nodup := hLT.nodup_iff.2 hTl.nodup
  have hrT : ∀ y ∈ T, y.bad = 0 := fun y hy => hr y (hLT.mem_iff.2 hy)
  have es : seenJ L (j + 1) = L.take (j + 1) := by unfold seenJ; rw [if_neg (by omega)]
  have hxm : x ∈ L := List.mem_of_getElem? hx
  have hxt : x ∈ L.take (j + 1) := take_mem hx (by omega)
  have hne : L.take (j + 1) ≠ [] := fun e => by rw [e] at hxt; cases hxt
  rw [es] at hH ⊢
  have TT := take_tile h0 hm hb hTl hT2 hrT hU h8 hH (fun y hy => hLT.mem_iff.1 (List.mem_of_mem_take hy)) (hLT.mem_iff.1 hxm) (fun e => absurd e hne) hT
  have hy : L[j + 1]? = some (L[j + 1]'hj1) := List.getElem?_eq_getElem hj1
  obtain ⟨ho, rfl, rfl, hn, hl2⟩ := TT.2 ⟨_, hLT.mem_iff.1 (List.mem_of_getElem? hy), fun h => by
    rcases h with h | h
    · exact take_lt hnd hy (by omega) h
    · rw [h] at hy
      have := nodup_inj hnd hx hy
      omega⟩
  refine ⟨rfl, rfl, ho, hn.congr fun y => ?_, by rw [hl2, if_neg hne]; omega⟩
  rw [List.mem_append, List.mem_singleton]
  exact ⟨fun h => h.elim id (fun e => e ▸ hxt), .inl⟩
end
/-- Two that change places. -/
theorem swap_perm {α : Type} {l : List α} {i k : Nat} {x y : α} (hi : l[i]? = some x) (hk : l[k]? = some y) : ((l.set i y).set k x).Perm l := by
  haveI : DecidableEq α := fun a b => Classical.propDecidable (a = b)
  obtain ⟨hil, hie⟩ := List.getElem?_eq_some_iff.1 hi
  obtain ⟨hkl, hke⟩ := List.getElem?_eq_some_iff.1 hk
  refine List.perm_iff_count.2 fun a => ?_
  rw [List.count_set (by simpa using hkl), List.count_set hil, List.getElem_set, hie]
  have h1 : (if x == a then 1 else 0) ≤ l.count a := by
    split
    · rename_i h
      have : a ∈ l := by rw [← (beq_iff_eq.1 h), ← hie]; exact List.getElem_mem hil
      exact List.count_pos_iff.2 this
    · omega
  by_cases hik : i = k
  · subst hik
    rw [if_pos rfl]
    obtain rfl : x = y := hie.symm.trans hke
    omega
  · rw [if_neg hik, hke]
    have h2 : (if y == a then 1 else 0) ≤ 1 := by split <;> omega
    by_cases hxy : x = y
    · subst hxy; omega
    · have h3 : (if y == a then 1 else 0) ≤ l.count a - (if x == a then 1 else 0) + (if y == a then 1 else 0) := by omega
      omega
end Go.Proofs.YtdmogppkambgaaaDoor
namespace Go.Proofs.YtdmogppkambgaaaDoor
open Go.RowKit

/-- Packets in a row that was laid from w0 on, each with bytes in a row that was laid from w0 on. -/
structure Al (w0 W : World) (sv : Value) (l : List Pv) : Prop where
  row : W.ownsRow w0.heap.size 42 10 sv l.length (l.flatMap Pv.row)
  own : ∀ x ∈ l, W.ownsRow w0.heap.size 5 1 x.sl x.p.b.length (x.p.b.map B8)
  base : Below w0.heap.size w0 W
section
variable {w0 W W' : World} {sv sv' : Value} {l m : List Pv} {x : Pv}
theorem Al.nil (h : Below w0.heap.size w0 W) : Al w0 W (.slice none 0 0) [] := ⟨World.ownsRow_nil _ _ _ _, fun _ h => (by cases h), h⟩
theorem Al.below (h : Al w0 W sv l) (hb : Below W.heap.size W W') : Al w0 W' sv l :=
  ⟨owns_at h.row (fun g hg => hb.block g (own_lt h.row hg)), fun x hx => owns_at (h.own x hx) (fun g hg => hb.block g (own_lt (h.own x hx) hg)), below_to h.base hb h.base.size⟩
theorem pvs_one : ∀ u ∈ l.flatMap Pv.row, u.oneCell' = true := fun u hu => by
  obtain ⟨x, _, hx⟩ := List.mem_flatMap.1 hu
  have h1 := ipRow_one x.p x.B x.p.b.length x.c
  rw [Array.all_eq_true_iff_forall_mem] at h1
  exact h1 u (by simpa [Pv.row] using hx)
/-- The cells of packets one behind the other. -/
theorem pvs_cells {g o : Nat} (h : ∀ k x, m[k]? = some x → Pv.At W g (o + k * 10) x) (i : Nat) (u : Value) (hu : (m.flatMap Pv.row)[i]? = some u) : W.cell? ⟨g, o + i, none⟩ = some u := by
  have hi := (List.getElem?_eq_some_iff.1 hu).1
  rw [pvs_len] at hi
  have hk : i / 10 < m.length := by omega
  have hx : m[i / 10]? = some m[i / 10] := List.getElem?_eq_getElem hk
  have hA := h _ _ hx
  generalize m[i / 10] = x at hx hA
  obtain ⟨j, hj, e⟩ : ∃ j, j < 10 ∧ i = i / 10 * 10 + j := ⟨i % 10, by omega, by omega⟩
  rw [e, pvs_get m _ j x hx hj] at hu
  rw [e, ← Nat.add_assoc]
  generalize o + i / 10 * 10 = q at hA
  rcases (show j = 0 ∨ j = 1 ∨ j = 2 ∨ j = 3 ∨ j = 4 ∨ j = 5 ∨ j = 6 ∨ j = 7 ∨ j = 8 ∨ j = 9 by omega) with rfl | rfl | rfl | rfl | rfl | rfl | rfl | rfl | rfl | rfl <;> cases hu
  · exact hA.c0
  · exact hA.c1
  · exact hA.c2
  · exact hA.c3
  · exact hA.c4
  · exact hA.c5
  · exact hA.c6
  · exact hA.c7
  · exact hA.c8
  · exact hA.c9
/-- Some more. -/
theorem Al.app (h : Al w0 W sv l) {wS : World} (hS : w0.heap.size ≤ wS.heap.size) {A : Option Addr} {n c : Nat} (k : Pk2 wS W (.slice A n c) m) (hn : n = m.length) (hm : 0 < m.length) (hfew : l.length + m.length < 100000000) (ty : TypeId) :
    ∃ sv' W', (Builtin.append_ #[47, 47] ty #[sv, .slice A n c]).run Tryd.prog W = .ok sv' W' ∧ Al w0 W' sv' (l ++ m) := by
  subst hn
  obtain ⟨x0, hx0⟩ : ∃ x, m[0]? = some x := ⟨_, List.getElem?_eq_getElem hm⟩
  obtain ⟨g, rfl, _⟩ := k.at hx0
  have hat : ∀ i x, m[i]? = some x → Pv.At W g (0 + i * 10) x := fun i x hx => by
    obtain ⟨g', e, h2⟩ := k.at hx
    cases e
    exact h2
  obtain ⟨i0, hi, hz0, hz1, hz2⟩ := info_parts ip_info
  obtain ⟨v', w1, hrun, ho1, hg, _, _⟩ := run_append_own_at (P := Tryd.prog) W w0.heap.size 47 ty 42 i0 _ 10 56 Tryd.underlying47 hi hz0 hz1 hz2 rfl (by omega) sv l.length _ h.row ⟨g, 0, none⟩ m.length c (m.flatMap Pv.row) (pvs_len m)
    (fun j u hu => by rw [Addr.add_lit]; exact pvs_cells hat j u hu) pvs_one (by simp only [maxLen]; omega) (by omega) h.base.size
  have keep : ∀ {y : Pv}, W.ownsRow w0.heap.size 5 1 y.sl y.p.b.length (y.p.b.map B8) → w1.ownsRow w0.heap.size 5 1 y.sl y.p.b.length (y.p.b.map B8) := fun {y} hy => owns_at hy (fun g hgy => by
    obtain ⟨cc, hcc⟩ := own_block hy hgy
    exact hg.block g (own_lt hy hgy) (fun e => own_ne h.row hcc ipTy_ne.symm e.symm))
  refine ⟨v', w1, hrun, ⟨?_, fun y hy => ?_, h.base.grown hg h.base.size (fun k hk => (h.row.lt k hk).1)⟩⟩
  · rw [List.length_append, List.flatMap_append]
    exact ho1
  · rcases List.mem_append.1 hy with hy | hy
    · exact keep (h.own y hy)
    · exact keep (owns_base (k.own y hy) hS)
theorem Al.shape (h : Al w0 W sv l) : ∃ A c, sv = .slice A l.length c ∧ l.length ≤ c ∧ c ≤ 9223372036854775807 := by
  rcases h.row.2 with ⟨e, h0⟩ | ⟨g, cap, cur, e, _, _, h1, h2, _⟩
  · exact ⟨none, 0, by rw [e, h0], by omega, by omega⟩
  · exact ⟨_, cap, e, h1, by simp only [maxLen] at h2; omega⟩
end

/-- The same, by its cells. -/
structure Ar (w0 W : World) (g o : Nat) (l : List Pv) : Prop where
  typ : ∃ cur, W.heap[g]? = some (.cells cur 42 (0, 0))
  at_ : ∀ k x, l[k]? = some x → Pv.At W g (o + k * 10) x
  own : ∀ x ∈ l, W.ownsRow w0.heap.size 5 1 x.sl x.p.b.length (x.p.b.map B8)
  base : Below w0.heap.size w0 W
  new : w0.heap.size ≤ g
section
variable {w0 W W' : World} {g o : Nat} {l : List Pv} {x y : Pv}
theorem Al.ar {A : Option Addr} {n c : Nat} (h : Al w0 W (.slice A n c) l) (hl : 0 < l.length) : ∃ g o, A = some ⟨g, o, none⟩ ∧ Ar w0 W g o l := by
  rcases h.row.2 with ⟨_, h0⟩ | ⟨g, cap, cur, e, hb, hg, h1, _, h3, h4⟩
  · omega
  · cases e
    refine ⟨g, 0, rfl, ⟨cur, hg⟩, fun k x hk => ?_, h.own, h.base, hb⟩
    have hkl := (List.getElem?_eq_some_iff.1 hk).1
    have hcell : ∀ j u, j < 10 → x.row[j]? = some u → W.cell? ⟨g, 0 + k * 10 + j, none⟩ = some u := fun j u hj hu => by
      rw [cell_of_row W g _ _ _ _ hg, Nat.zero_add, ← Array.getElem?_toList, ← hu, ← pvs_get l k j x hk hj, ← h4, List.getElem?_take_of_lt (by omega)]
    exact ⟨hcell 0 _ (by omega) rfl, hcell 1 _ (by omega) rfl, hcell 2 _ (by omega) rfl, hcell 3 _ (by omega) rfl, hcell 4 _ (by omega) rfl, hcell 5 _ (by omega) rfl, hcell 6 _ (by omega) rfl, hcell 7 _ (by omega) rfl, hcell 8 _ (by omega) rfl, hcell 9 _ (by omega) rfl⟩
theorem Ar.lt (h : Ar w0 W g o l) : g < W.heap.size := by obtain ⟨cur, hg⟩ := h.typ; exact (Array.getElem?_eq_some_iff.1 hg).1
theorem Ar.below (h : Ar w0 W g o l) (hb : Below W.heap.size W W') : Ar w0 W' g o l :=
  ⟨by obtain ⟨cur, hg⟩ := h.typ; exact ⟨cur, (hb.block g h.lt).trans hg⟩, fun k x hk => (h.at_ k x hk).below hb, fun x hx => owns_at (h.own x hx) (fun g hg => hb.block g (own_lt (h.own x hx) hg)), below_to h.base hb h.base.size, h.new⟩
theorem Pv.At.range (h : Pv.At W g o x) : W.rangeAt g o x.row := fun j v hv => by
  have hj : j < 10 := (List.getElem?_eq_some_iff.1 hv).1
  rcases (show j = 0 ∨ j = 1 ∨ j = 2 ∨ j = 3 ∨ j = 4 ∨ j = 5 ∨ j = 6 ∨ j = 7 ∨ j = 8 ∨ j = 9 by omega) with rfl | rfl | rfl | rfl | rfl | rfl | rfl | rfl | rfl | rfl <;> cases hv
  · exact h.c0
  · exact h.c1
  · exact h.c2
  · exact h.c3
  · exact h.c4
  · exact h.c5
  · exact h.c6
  · exact h.c7
  · exact h.c8
  · exact h.c9
theorem Pv.At.of_range (h : W.rangeAt g o x.row) : Pv.At W g o x :=
  ⟨h 0 _ rfl, h 1 _ rfl, h 2 _ rfl, h 3 _ rfl, h 4 _ rfl, h 5 _ rfl, h 6 _ rfl, h 7 _ rfl, h 8 _ rfl, h 9 _ rfl⟩
theorem fb_typ {g b : Nat} {t : TypeId} {fr : Nat × Nat} : ∀ (vs : List Value) (o : Nat) (w : World) (cur : Array Value), w.heap[g]? = some (.cells cur t fr) → ∃ cur', (w.setCells b o vs).heap[g]? = some (.cells cur' t fr)
  | [], _, _, cur, h => ⟨cur, h⟩
  | v :: r, o, w, cur, h => by
    rw [World.setCells]
    by_cases e : b = g
    · subst e
      exact fb_typ r _ _ _ (by simp [World.setCell, Array.getElem?_modify, h]; rfl)
    · exact fb_typ r _ _ cur ((Below.heap_setCell _ _ _ _ (fun k => e k.symm)).trans h)
theorem fb_tape (b : Nat) : ∀ (vs : List Value) (o : Nat) (w : World), (w.setCells b o vs).tape = w.tape
  | [], _, _ => rfl
  | v :: r, o, w => by rw [World.setCells, fb_tape b r]; rfl
theorem fb_size (b : Nat) : ∀ (vs : List Value) (o : Nat) (w : World), (w.setCells b o vs).heap.size = w.heap.size
  | [], _, _ => rfl
  | v :: r, o, w => by rw [World.setCells, fb_size b r]; simp [World.setCell]
theorem Ar.there (h : Ar w0 W g o l) {k : Nat} (hk : k < l.length) : W.there g (o + k * 10) 10 := fun j hj => by
  have hx : l[k]? = some l[k] := List.getElem?_eq_getElem hk
  obtain ⟨cur, hg⟩ := h.typ
  exact ⟨(h.at_ k _ hx).range.isSome j hj, by simp [World.frozen?, hg]⟩
theorem Ar.keep (h : Ar w0 W g o l) {y : Pv} (hy : W.ownsRow w0.heap.size 5 1 y.sl y.p.b.length (y.p.b.map B8)) (q : Nat) (vs : List Value) : (W.setCells g q vs).ownsRow w0.heap.size 5 1 y.sl y.p.b.length (y.p.b.map B8) := by
  refine owns_at hy (fun k hk => World.heap_setCells_other W g _ _ (own_lt hy hk) ?_)
  obtain ⟨cur, hg⟩ := h.typ
  intro e
  exact own_ne hy hg ipTy_ne (by rw [hk, e])
/-- One packet in another one's place. -/
theorem Ar.set (h : Ar w0 W g o l) {k : Nat} (hk : k < l.length) (hy : W.ownsRow w0.heap.size 5 1 y.sl y.p.b.length (y.p.b.map B8)) : Ar w0 (W.setCells g (o + k * 10) y.row) g o (l.set k y) := by
  have ht := h.there hk
  refine ⟨?_, fun j x hx => ?_, fun x hx => ?_, ?_, h.new⟩
  · obtain ⟨cur, hg⟩ := h.typ
    exact fb_typ _ _ _ cur hg
  · by_cases hjk : k = j
    · subst hjk
      rw [List.getElem?_set_self hk] at hx
      obtain rfl : y = x := Option.some.inj hx
      exact .of_range (World.rangeAt_setCells_same W g _ y.row ht)
    · rw [List.getElem?_set_ne hjk] at hx
      refine .of_range (World.rangeAt_setCells_apart (h.at_ j x hx).range g _ y.row (.inr ?_))
      have e1 : x.row.length = 10 := rfl
      have e2 : y.row.length = 10 := rfl
      omega
  · rcases List.mem_or_eq_of_mem_set hx with e | e
    · exact h.keep (h.own x e) _ _
    · subst e
      exact h.keep hy _ _
  · exact ⟨(World.os_setCells W g _ _).trans h.base.os, (fb_tape g _ _ W).trans h.base.tape, (World.output_setCells W g _ _).trans h.base.output, by rw [fb_size]; exact h.base.size, fun q hq => (World.heap_setCells_other W g _ _ (Nat.lt_of_lt_of_le hq h.base.size) (fun e => by have := h.new; omega)).trans (h.base.block q hq)⟩
end
end Go.Proofs.YtdmogppkambgaaaDoor
namespace Go.Proofs.YtdmogppkambgaaaDoor
open Go.ChangeShapes Go.WideShapes Go.RowKit Go.Deep

def WordsIn (w : World) (A : Option Addr) (M : Nat) : Prop := ∀ k, k < M → ∃ g o, ∃ n : Nat, A = some ⟨g, o, none⟩ ∧ w.cell? ⟨g, o + k, none⟩ = some (.int .u16 (n : Int)) ∧ n ≤ 65535
def BoolsAt2 (w : World) (A : Option Addr) (M : Nat) : Prop := ∀ k, k < M → ∃ g o b, A = some ⟨g, o, none⟩ ∧ w.cell? ⟨g, o + k, none⟩ = some (.bool b)
theorem u16_natF {n : Int} (h : (Lit.int .u16 n).wf = true) : ∃ m : Nat, n = (m : Int) ∧ m ≤ 65535 := by
  have hmin : IntKind.u16.min = 0 := by rfl
  have hmax : IntKind.u16.max = 65535 := by rfl
  simp [Lit.wf, hmin, hmax] at h
  exact ⟨n.toNat, by omega, by omega⟩
theorem words_of_ints : ∀ zs : List Int, (∀ n ∈ zs, (Lit.int .u16 n).wf = true) → ∃ ns : List Nat, (zs = ns.map fun (b : Nat) => (b : Int)) ∧ ∀ n ∈ ns, n ≤ 65535
  | [], _ => ⟨[], rfl, by simp⟩
  | z :: zs, h => by
    obtain ⟨a, rfl, ha⟩ := u16_natF (h z (List.mem_cons_self ..))
    obtain ⟨bs, rfl, hb⟩ := words_of_ints zs (fun n hn => h n (List.mem_cons_of_mem _ hn))
    exact ⟨a :: bs, rfl, by intro n hn; rcases List.mem_cons.1 hn with rfl | hn; exact ha; exact hb n hn⟩
section
variable {H : Type} {enc : TypeId × Value → H} {W : World}
set_option maxRecDepth 100000 in
theorem open_words {base : Nat} {v : Value} {d : DataW H} {ps : List MemPlace} (hv : Value.okWide Tryd.prog W .any base 55 v) (h : DataW.Trod enc Tryd.prog W 0 (fun _ => true) true 55 v d ps) :
    ∃ (A : Option Addr) (M c : Nat), v = .slice A M c ∧ M ≤ c ∧ c ≤ 9223372036854775807 ∧ WordsIn W A M := by
  obtain ⟨a0, len, cap, rfl⟩ := okWide_slice Tryd.underlying55 hv
  obtain ⟨fuel, hf⟩ := h
  have hc1 : Tryd.prog.cellsOf 39 = 1 := by kernel_rfl
  rcases open_ints Tryd.underlying55 Tryd.underlying39 hc1 hf with ⟨hcs, _⟩ | ⟨a, len', cap', zs, hcs, _, hle, hmax, hall, _, hcell, hwf⟩
  · simp [Value.cells] at hcs
    obtain ⟨rfl, rfl, rfl⟩ := hcs
    exact ⟨none, 0, 0, rfl, by omega, by omega, fun k hk => absurd hk (by omega)⟩
  · simp [Value.cells] at hcs
    obtain ⟨rfl, rfl, rfl⟩ := hcs
    simp only [if_true] at hall
    obtain ⟨ns, rfl, hns⟩ := words_of_ints zs hwf
    simp only [List.length_map] at hall hcell
    refine ⟨some a, len, cap, rfl, hle, by simp only [maxLen] at hmax; omega, fun k hk => ?_⟩
    obtain ⟨b, off, rfl, hj⟩ := ints_at (w := W) (a := a) (k := .u16) (zs := ns.map fun (b : Nat) => (b : Int)) (by simpa using hcell) (by simp; omega)
    have hi : k < ns.length := by omega
    have hu : ns[k]? = some ns[k] := List.getElem?_eq_getElem hi
    refine ⟨b, off, ns[k], rfl, ?_, hns _ (List.getElem_mem hi)⟩
    rw [hj k (by simpa using hi)]
    simp [List.getD, hu]
set_option maxRecDepth 100000 in
theorem open_bools {base : Nat} {v : Value} {d : DataW H} {ps : List MemPlace} (hv : Value.okWide Tryd.prog W .any base 56 v) (h : DataW.Trod enc Tryd.prog W 0 (fun _ => true) true 56 v d ps) :
    ∃ (A : Option Addr) (M c : Nat), v = .slice A M c ∧ M ≤ c ∧ c ≤ 9223372036854775807 ∧ BoolsAt2 W A M := by
  obtain ⟨a0, len, cap, rfl⟩ := okWide_slice Tryd.underlying56 hv
  obtain ⟨fuel, hf⟩ := h
  have hC : Tryd.prog.cellsOf 4 = 1 := by kernel_rfl
  rcases open_slice Tryd.underlying56 hf with ⟨hcs, _⟩ | ⟨a, len', cap', m, n, D, Pl, hcs, _, hle, hmax, hm, _, hall⟩
  · simp [Value.cells] at hcs
    obtain ⟨rfl, rfl, rfl⟩ := hcs
    exact ⟨none, 0, 0, rfl, by omega, by omega, fun k hk => absurd hk (by omega)⟩
  · simp [Value.cells] at hcs
    obtain ⟨rfl, rfl, rfl⟩ := hcs
    simp only [if_true] at hm
    refine ⟨some a, len, cap, rfl, hle, by simp only [maxLen] at hmax; omega, fun k hk => ?_⟩
    have hspot : ∃ b off, a = ⟨b, off, none⟩ := by
      obtain ⟨cs0, hc0, _⟩ := hall 0 (by omega)
      rw [hC] at hc0
      obtain ⟨_, hl0, hat0⟩ := World.cells?_some hc0
      have h5 := hat0 0 (by omega)
      have h6 : cs0[0]? = some (cs0[0]'(by omega)) := List.getElem?_eq_getElem (by omega)
      rw [h6] at h5
      have h7 := World.cell?_spot h5
      obtain ⟨b, off, spot⟩ := a
      refine ⟨b, off, ?_⟩
      have h8 : spot = none := by simpa [Addr.add] using h7
      rw [h8]
    obtain ⟨b, off, rfl⟩ := hspot
    obtain ⟨cs, hc, ht⟩ := hall k (by omega)
    rw [hC] at hc
    obtain ⟨_, hl, hat⟩ := World.cells?_some hc
    match cs, hl with
    | [c0], _ =>
      obtain ⟨b0, e0, _⟩ := DataW.trod_bool Tryd.underlying4 ht
      have e0' : c0 = .bool b0 := by simpa using e0
      subst e0'
      have a0 := hat 0 (by omega)
      simp only [Addr.add_lit] at a0
      exact ⟨b, off, b0, rfl, by simpa using a0⟩
end
end Go.Proofs.YtdmogppkambgaaaDoor
namespace Go.Proofs.YtdmogppkambgaaaDoor
open Go.RowKit

/-- The parts of the first ones. -/
def partsI (L : List Ip) (m2 : Int) (i : Nat) : List Ip := (L.take i).flatMap fun x => splitL x m2
theorem partsI_succ {L : List Ip} {m2 : Int} {i : Nat} {x : Ip} (h : L[i]? = some x) : partsI L m2 (i + 1) = partsI L m2 i ++ splitL x m2 := by
  unfold partsI
  rw [List.take_add_one, h]
  simp
theorem parts_in {p : Ip} (hp : p.Fit) {mtu m2 : Int} (hm : 68 ≤ mtu) (hm2 : 68 ≤ m2) {x : Ip} (hx : x ∈ (splitL p.plain mtu).flatMap fun x => splitL x m2) : x.In ∧ x.b.length ≤ 2000 := by
  obtain ⟨y, hy, hx⟩ := List.mem_flatMap.1 hx
  have h1 := splitL_in (Ip.plain_in hp) (splitC_plain hm) hy
  have h2 := plain_part hm hy
  have h3 := splitL_in h1.1 (splitC_part hm2 h2.1 h2.2) hx
  have h4 := p.plain_len
  exact ⟨h3.1, by omega⟩
set_option maxRecDepth 100000 in
set_option maxHeartbeats 8000000 in
theorem fragBack_of {R : World → Nat → (Nat → Prop) → Int → List Hp → Prop} (X : FgOk R) (X0 : ∀ W, W.cell? ⟨0, 0, none⟩ = some (.iface 121 (.agg #[.pointer (some ⟨4, 27, none⟩)])) → Calls Tryd.prog 14 #[] W fun e w' => e = .returned (.bool true) ∧ Below W.heap.size W w')
    (p : Ip) (A : Option Addr) (c : Nat) (x1 : Int) (A2 : Option Addr) (M2 c2 : Nat) (A3 : Option Addr) (M3 c3 : Nat) (x2 : Int) (w : World) (hg : w.cell? ⟨0, 0, none⟩ = some (.iface 121 (.agg #[.pointer (some ⟨4, 27, none⟩)]))) (hfit : p.Fit) (hc : c ≤ 9223372036854775807) (hr : Rd w (.slice A p.b.length c) p.b) (hw2 : WordsIn w A2 M2) (hM2 : M2 ≤ c2) (hc2 : c2 ≤ 9223372036854775807) (hw3 : BoolsAt2 w A3 M3) (hM3 : M3 ≤ c3) (hc3 : c3 ≤ 9223372036854775807) :
    Calls Tryd.prog 5 #[.agg #[.int .u8 p.tos, .int .u16 p.id, .bool p.df, .bool p.mf, .int .i64 p.off, .int .u8 p.ttl, .int .u8 p.proto, .int .u32 p.src, .int .u32 p.dst, .slice A p.b.length c], .int .i64 x1, .slice A2 M2 c2, .slice A3 M3 c3, .int .i64 x2] w fun e w' => e = .returned (.bool true) ∧ Below w.heap.size w w' := by
  obtain ⟨m0, hm0⟩ : ∃ m, bits .and .i64 x1 65535 = m := ⟨_, rfl⟩
  have b0 := and_bound x1 65535 (by omega) (by omega)
  rw [hm0] at b0
  obtain ⟨m1, hm1⟩ : ∃ m, m0.tmod 1500 = m := ⟨_, rfl⟩
  have b1 : 0 ≤ m1 ∧ m1 ≤ 1499 := by
    rw [Int.tmod_eq_emod_of_nonneg b0.1] at hm1
    omega
  obtain ⟨mtu, hmtu⟩ : ∃ m, 68 + m1 = m := ⟨_, rfl⟩
  have qm : IntKind.i64.wrap (68 + m1) = mtu := by rw [IntKind.wrap_i64]; omega
  have hmt : 68 ≤ mtu ∧ mtu ≤ 1567 := by omega
  obtain ⟨ml, hml⟩ : ∃ m, bits .and .i64 x2 255 = m := ⟨_, rfl⟩
  have b2 := and_bound x2 255 (by omega) (by omega)
  rw [hml] at b2
  obtain ⟨md, hmd⟩ : ∃ m, mtu - ml = m := ⟨_, rfl⟩
  have qd : IntKind.i64.wrap (mtu - ml) = md := by rw [IntKind.wrap_i64]; omega
  obtain ⟨m2, hm2⟩ : ∃ m, max md 68 = m := ⟨_, rfl⟩
  have hmt2 : 68 ≤ m2 ∧ m2 ≤ 1567 := by omega
  have hmax := fun ats ty W => max_run (P := Tryd.prog) ats ty md 68 m2 hm2.symm W
  have Hfit := Lib.hid hfit
  have XX := Lib.hid X
  have HW2 := Lib.hid hw2
  have HW3 := Lib.hid hw3
  have hB0 : Below w.heap.size w (w.alloc (.cells #[.int .u8 p.tos, .int .u16 p.id, .bool p.df, .bool p.mf, .int .i64 p.off, .int .u8 p.ttl, .int .u8 p.proto, .int .u32 p.src, .int .u32 p.dst, .slice A p.b.length c] 42)) := (Below.refl _ w).alloc (Nat.le_refl _) _
  have X0 := Lib.hid (X0 _ ((hB0.cell (World.block_lt_of_cell? w _ hg)).trans hg))
  have M0 := Lib.hid (heap_alloc_new w (.cells #[.int .u8 p.tos, .int .u16 p.id, .bool p.df, .bool p.mf, .int .i64 p.off, .int .u8 p.ttl, .int .u8 p.proto, .int .u32 p.src, .int .u32 p.dst, .slice A p.b.length c] 42))
  have B0 := Lib.hid hB0
  have R0 := Lib.hid (hr.below hB0)
  have hfl : p.few.b.length ≤ 2000 := p.plain_len
  clear X hfit hg hB0 hr hmtu hw2 hw3 hm2 hmd
  go_enter Tryd.func5, Tryd.ntmps5
  go_upto_region 1 with fail
  generalize w.alloc (.cells #[.int .u8 p.tos, .int .u16 p.id, .bool p.df, .bool p.mf, .int .i64 p.off, .int .u8 p.ttl, .int .u8 p.proto, .int .u32 p.src, .int .u32 p.dst, .slice A p.b.length c] 42) = w0 at X0 M0 B0 R0 ⊢
  obtain ⟨G, hG⟩ : ∃ G, w.heap.size = G := ⟨_, rfl⟩
  have HGe := Lib.hid hG
  rw [hG] at M0 B0 ⊢
  clear hG
  go_upto_region 2 with (go_at_call 14; (with_reducible refine X0.out.mono ?_); rintro e w1 ⟨rfl, hB⟩; (have B1 := Lib.hid hB); clear hB)
  have M1 := Lib.hid ((B1.out.block G (Array.getElem?_eq_some_iff.1 M0.out).1).trans M0.out)
  have R1 := Lib.hid (R0.out.below B1.out)
  have Bw1 := Lib.hid (below_to B0.out B1.out (by have := B0.out.size; have := (Array.getElem?_eq_some_iff.1 M0.out).1; omega))
  clear X0 M0 B0 R0 B1
  have XF := Lib.hid (few2_any p A c w1 R1.out hc)
  unfold FewTold Ip.val Ip.row at XF
  obtain ⟨c0, c1, d2, d3, c4, c5', c6, c7, c8, c9⟩ := IpAt.cells (p := p) (bv := .slice A p.b.length c) M1.out
  go_upto_region 3 with (first
    | (go_at_call 15; (with_reducible refine XF.out.mono ?_); rintro e w2 ⟨g5, c5, rfl, hr5, hg5, hB5, hcc5⟩; (have MA2 := Lib.hid ((hB5.block G (Array.getElem?_eq_some_iff.1 M1.out).1).trans M1.out)); (have B2 := Lib.hid hB5); (have R2 := Lib.hid hr5); (have HC5 := Lib.hid hcc5); (have NG : Hid (g5 ≠ G) := Lib.hid (by have := (Array.getElem?_eq_some_iff.1 M1.out).1; omega)); clear hr5 hg5 hB5 hcc5)
    | (refine wpList_store_row rfl 42 (.tmp 5) (.tmp 31) rfl G #[.int .u8 p.tos, .int .u16 p.id, .bool p.df, .bool p.mf, .int .i64 p.off, .int .u8 p.ttl, .int .u8 p.proto, .int .u32 p.src, .int .u32 p.dst, .slice (some ⟨g5, 0, none⟩) p.few.b.length c5] rfl rfl 42 _ MA2.out ipSize rfl (by simp [Value.oneCell']) ?_))
  have MA3 := Lib.hid (setRow_heap _ _ _ #[.int .u8 p.tos, .int .u16 p.id, .bool p.df, .bool p.mf, .int .i64 p.off, .int .u8 p.ttl, .int .u8 p.proto, .int .u32 p.src, .int .u32 p.dst, .slice (some ⟨g5, 0, none⟩) p.few.b.length c5] _ _ MA2.out)
  have R3 := Lib.hid (rd_row R2.out NG.out #[.int .u8 p.tos, .int .u16 p.id, .bool p.df, .bool p.mf, .int .i64 p.off, .int .u8 p.ttl, .int .u8 p.proto, .int .u32 p.src, .int .u32 p.dst, .slice (some ⟨g5, 0, none⟩) p.few.b.length c5])
  have Bw3 := Lib.hid (below_setRow (below_to Bw1.out B2.out (by have := Bw1.out.size; have := (Array.getElem?_eq_some_iff.1 M1.out).1; omega)) (Nat.le_refl G) #[.int .u8 p.tos, .int .u16 p.id, .bool p.df, .bool p.mf, .int .i64 p.off, .int .u8 p.ttl, .int .u8 p.proto, .int .u32 p.src, .int .u32 p.dst, .slice (some ⟨g5, 0, none⟩) p.few.b.length c5])
  generalize w2.setRow G #[.int .u8 p.tos, .int .u16 p.id, .bool p.df, .bool p.mf, .int .i64 p.off, .int .u8 p.ttl, .int .u8 p.proto, .int .u32 p.src, .int .u32 p.dst, .slice (some ⟨g5, 0, none⟩) p.few.b.length c5] = w3 at MA3 R3 Bw3 ⊢
  clear c0 c1 d2 d3 c4 c5' c6 c7 c8 c9 XF R1 R2 B2 M1 MA2 Bw1
  have MM4 : Hid ((((w3.setCell ⟨G, 4, none⟩ (.int .i64 0)).setCell ⟨G, 3, none⟩ (.bool false)).setCell ⟨G, 2, none⟩ (.bool false)).heap[G]? = some (.cells #[.int .u8 p.tos, .int .u16 p.id, .bool false, .bool false, .int .i64 0, .int .u8 p.ttl, .int .u8 p.proto, .int .u32 p.src, .int .u32 p.dst, .slice (some ⟨g5, 0, none⟩) p.few.b.length c5] 42)) := Lib.hid (by
    have h := MA3.out
    unfold World.setCell
    simp only [Array.getElem?_modify, if_true, h, Option.map_some]
    rfl)
  have Bw4 := Lib.hid (((Bw3.out.setCell (p := ⟨G, 4, none⟩) (Nat.le_refl _) (.int .i64 0)).setCell (p := ⟨G, 3, none⟩) (Nat.le_refl _) (.bool false)).setCell (p := ⟨G, 2, none⟩) (Nat.le_refl _) (.bool false))
  have R4 := Lib.hid (rd_set (rd_set (rd_set R3.out NG.out 4 (.int .i64 0)) NG.out 3 (.bool false)) NG.out 2 (.bool false))
  have hf4 : w3.frozen? ⟨G, 4, none⟩ = false := by simp [World.frozen?, MA3.out]
  have hf3 : w3.frozen? ⟨G, 3, none⟩ = false := by simp [World.frozen?, MA3.out]
  have hf2 : w3.frozen? ⟨G, 2, none⟩ = false := by simp [World.frozen?, MA3.out]
  have hc4 : w3.cell? ⟨G, 4, none⟩ = some (.int .i64 p.off) := by simp [World.cell?, MA3.out]
  have hc3' : w3.cell? ⟨G, 3, none⟩ = some (.bool p.mf) := by simp [World.cell?, MA3.out]
  have hc2' : w3.cell? ⟨G, 2, none⟩ = some (.bool p.df) := by simp [World.cell?, MA3.out]
  go_upto_region 6 with fail
  generalize ((w3.setCell ⟨G, 4, none⟩ (.int .i64 0)).setCell ⟨G, 3, none⟩ (.bool false)).setCell ⟨G, 2, none⟩ (.bool false) = w4 at MM4 Bw4 R4 ⊢
  clear hf2 hf3 hf4 hc2' hc3' hc4 MA3 Bw3 R3
  have XSp : Hid (Calls Tryd.prog 17 #[.agg #[.int .u8 p.tos, .int .u16 p.id, .bool false, .bool false, .int .i64 0, .int .u8 p.ttl, .int .u8 p.proto, .int .u32 p.src, .int .u32 p.dst, .slice (some ⟨g5, 0, none⟩) p.few.b.length c5], .int .i64 mtu] w4 (SplitVal2 p.plain mtu w4)) := Lib.hid (fsplit_any p.plain (some ⟨g5, 0, none⟩) c5 mtu w4 (Ip.plain_in Hfit.out) hfl HC5.out (by omega) (by omega) R4.out)
  obtain ⟨c0, c1, d2, d3, c4, c5', c6, c7, c8, c9⟩ : w4.cell? ⟨G, 0, none⟩ = some (.int .u8 p.tos) ∧ w4.cell? ⟨G, 1, none⟩ = some (.int .u16 p.id) ∧ w4.cell? ⟨G, 2, none⟩ = some (.bool false) ∧ w4.cell? ⟨G, 3, none⟩ = some (.bool false) ∧ w4.cell? ⟨G, 4, none⟩ = some (.int .i64 0) ∧ w4.cell? ⟨G, 5, none⟩ = some (.int .u8 p.ttl) ∧ w4.cell? ⟨G, 6, none⟩ = some (.int .u8 p.proto) ∧ w4.cell? ⟨G, 7, none⟩ = some (.int .u32 p.src) ∧ w4.cell? ⟨G, 8, none⟩ = some (.int .u32 p.dst) ∧ w4.cell? ⟨G, 9, none⟩ = some (.slice (some ⟨g5, 0, none⟩) p.few.b.length c5) := IpAt.cells (p := p.plain) (bv := .slice (some ⟨g5, 0, none⟩) p.few.b.length c5) MM4.out
  go_upto_region 8 with (go_at_call 17; (with_reducible refine XSp.out.mono ?_); rintro e w5 ⟨l, A5, d5, ev, rfl, hE, hlm, hPk⟩; (have E5 := Lib.hid hE); (have L5 := Lib.hid hlm); (have P5 := Lib.hid hPk); clear hE hlm hPk)
  clear c0 c1 d2 d3 c4 c5' c6 c7 c8 c9 XSp
  have h0 := splitC_plain (p := p) hmt.1
  obtain rfl : ev = .nilIface := by
    rcases E5.out with ⟨_, h⟩ | ⟨h, _⟩
    · exact h
    · exact absurd h0 h
  have hlm := L5.out
  rw [if_pos h0] at hlm
  have HLM := Lib.hid hlm
  have hlt5 : G < w4.heap.size := (Array.getElem?_eq_some_iff.1 MM4.out).1
  have Bw5 := Lib.hid (below_to (HGe.out ▸ Bw4.out : Below w.heap.size w w4) P5.out.base (HGe.out ▸ Bw4.out : Below w.heap.size w w4).size)
  have M5 := Lib.hid ((P5.out.base.block G hlt5).trans MM4.out)
  have R5 := Lib.hid (R4.out.below P5.out.base)
  have hn2 := splitL_le p.plain hmt.1
  have hLl : (splitL p.plain mtu).length = l.length := by rw [← HLM.out, List.length_map]
  have hpl := p.plain_len
  have h6 : l.length ≤ 2001 := by omega
  have HLl := Lib.hid hLl
  have HG5 : Hid (G < w5.heap.size) := by have := P5.out.base.size; show G < w5.heap.size; omega
  have HWG : Hid (w.heap.size = G) := HGe.out
  clear h0 hlm E5 L5 MM4 Bw4 R4 hlt5 hn2 hLl hpl qm
  go_wp2_with fail
  go_loopw [14, 15] (fun s14 s15 wr => ∃ (i : Nat) (a : List Pv), s15 = .int .i64 (i : Int) ∧ i ≤ l.length ∧ a.map Pv.p = partsI (splitL p.plain mtu) m2 i ∧ a.length ≤ i * 2001 ∧ Al w5 wr s14 a) (fun _ s15 _ => l.length - (intOf s15).toNat)
  case atStart => exact ⟨0, [], rfl, Nat.zero_le _, rfl, by simp, Al.nil (Below.refl _ _)⟩
  case round =>
    obtain ⟨i, a, rfl, hi, ham, hal, hA⟩ := hrel
    have HA := Lib.hid hA
    have HAM := Lib.hid ham
    clear hA ham
    by_cases hlt : i < l.length
    · have q1 : decide ((i : Int) < (l.length : Int)) = true := decide_eq_true (by omega)
      obtain ⟨x, hx⟩ : ∃ x, l[i]? = some x := ⟨l[i], List.getElem?_eq_getElem hlt⟩
      have hxm : x ∈ l := List.mem_of_getElem? hx
      have hxp : (splitL p.plain mtu)[i]? = some x.p := by rw [← HLM.out, List.getElem?_map, hx]; rfl
      obtain ⟨g, e, hX⟩ := (P5.out.below HA.out.base).at hx
      subst e
      rw [Nat.zero_add] at hX
      have hown := (P5.out.below HA.out.base).own x hxm
      have hin := splitL_in (Ip.plain_in Hfit.out) (splitC_plain hmt.1) (List.mem_of_getElem? hxp)
      have hxl : x.p.b.length ≤ 2000 := by have := p.plain_len; omega
      have hxc : x.c ≤ 9223372036854775807 := by
        obtain ⟨A', c', e, _, h4, _⟩ := own_shape hown
        have : Value.slice x.B x.p.b.length x.c = .slice A' x.p.b.length c' := e
        simp only [Value.slice.injEq] at this
        omega
      have hpart := plain_part hmt.1 (List.mem_of_getElem? hxp)
      have hC2 := splitC_part hmt2.1 hpart.1 hpart.2
      have XS2 := Lib.hid (fsplit_any x.p x.B x.c m2 wr hin.1 hxl hxc (by omega) (by omega) (own_rd hown))
      unfold Ip.val Ip.row at XS2
      have HC2 := Lib.hid hC2
      have HXP := Lib.hid hxp
      have HXL := Lib.hid hxl
      obtain ⟨c0, c1, d2, d3, c4, c5', c6, c7, c8, c9⟩ := hX
      clear hx hxm hxp hown hin hxl hxc hpart hC2
      as_aux_lemma =>
      go_upto_region 15 with (go_at_call 17; (with_reducible refine XS2.out.mono ?_); rintro e w7 ⟨l7, A7, d7, ev7, rfl, hE, hlm, hPk⟩; (have E7 := Lib.hid hE); (have L7 := Lib.hid hlm); (have P7 := Lib.hid hPk); clear hE hlm hPk)
      clear c0 c1 d2 d3 c4 c5' c6 c7 c8 c9 XS2
      obtain rfl : ev7 = .nilIface := by
        rcases E7.out with ⟨_, h⟩ | ⟨h, _⟩
        · exact h
        · exact absurd HC2.out h
      have hm7 : l7.map Pv.p = splitL x.p m2 := by
        have h := L7.out
        rw [if_pos HC2.out] at h
        exact h
      have hl7 : 0 < l7.length ∧ l7.length ≤ 2001 := by
        have h1 := congrArg List.length hm7
        rw [List.length_map] at h1
        have h2 := (split_more (p := x.p) hmt2.1 (Int.le_refl _)).2
        have h3 := splitL_le x.p hmt2.1
        have h4 := HXL.out
        omega
      have hA7 := HA.out.below P7.out.base
      obtain ⟨sv', w8, run8, hA8⟩ := hA7.app (wS := wr) HA.out.base.size P7.out rfl hl7.1 (by have h7 := Nat.mul_le_mul_right 2001 hi; omega) 47
      have HA8 := Lib.hid hA8
      have HM7 := Lib.hid hm7
      clear hA7 hA8 hm7 E7 L7
      go_wp2_with (at_builtin; refine wpList_append_run rfl (.tmp 68) (.tmp 69) 47 47 rfl _ _ rfl rfl _ _ run8 ?_)
      go_roundw
      case rel => exact ⟨i + 1, a ++ l7, by simp, by omega, by rw [partsI_succ HXP.out, List.map_append, HAM.out, HM7.out], by rw [List.length_append, Nat.succ_mul]; omega, HA8.out⟩
      case measure => simp [intOf]; omega
    · have q1 : decide ((i : Int) < (l.length : Int)) = false := decide_eq_false (by omega)
      have hPA : Parts p.plain (a.map Pv.p) := by
        rw [HAM.out]
        have e : partsI (splitL p.plain mtu) m2 i = (splitL p.plain mtu).flatMap fun x => splitL x m2 := by
          unfold partsI
          rw [List.take_of_length_le (by rw [HLl.out]; omega)]
        rw [e]
        exact parts_of p hmt.1 hmt2.1
      have HPA := Lib.hid hPA
      have hPI : ∀ x ∈ a, x.p.In ∧ x.p.b.length ≤ 2000 := fun x hx => by
        have h1 : x.p ∈ a.map Pv.p := List.mem_map.2 ⟨x, hx, rfl⟩
        rw [HAM.out] at h1
        obtain ⟨y, hy, hx⟩ := List.mem_flatMap.1 h1
        exact parts_in Hfit.out hmt.1 hmt2.1 (List.mem_flatMap.2 ⟨y, List.mem_of_mem_take hy, hx⟩)
      have HPI := Lib.hid hPI
      have hne : 0 < a.length := by have := hPA.ne; rwa [List.length_map] at this
      have hal2 : a.length ≤ 10000000 := by have := Nat.mul_le_mul_right 2001 hi; omega
      obtain ⟨A8, c8, e8, hc8, hc8b⟩ := HA.out.shape
      subst e8
      obtain ⟨g8, o8, e8, hAr⟩ := HA.out.ar hne
      subst e8
      obtain ⟨N, hN⟩ : ∃ N, N = a.length := ⟨_, rfl⟩
      rw [← hN] at hne hal2 hc8 ⊢
      have HN := Lib.hid hN
      have HAR := Lib.hid hAr
      clear hPA hAr HA HAM hal hi hN hmax hPI
      go_upto_block 2 with fail
      go_cut [18] (fun _ wx => ∃ b : List Pv, b.Perm a ∧ Ar w5 wx g8 o8 b)
      case first =>
       go_wp2_with fail
       go_loopw [18] (fun s18 wx => ∃ (j : Nat) (b : List Pv), s18 = .int .i64 (j : Int) ∧ j ≤ N ∧ b.Perm a ∧ Ar w5 wx g8 o8 b) (fun s18 _ => N - (intOf s18).toNat)
       case atStart => exact ⟨0, a, rfl, Nat.zero_le _, List.Perm.refl _, HAR.out⟩
       case round =>
         obtain ⟨j, b, rfl, hj, hb, hA⟩ := hrel
         have HA := Lib.hid hA
         have HBP := Lib.hid hb
         have hbl : b.length = N := by rw [hb.length_eq, HN.out]
         have HBL := Lib.hid hbl
         clear hA hb hbl q1
         by_cases hlt : j < N ∧ j < M2
         · have q1 : decide ((j : Int) < (N : Int)) = true := decide_eq_true (by omega)
           have q2 : decide ((j : Int) < (M2 : Int)) = true := decide_eq_true (by omega)
           obtain ⟨hjN, hjM⟩ := hlt
           have hbw := below_to Bw5.out HA.out.base Bw5.out.size
           obtain ⟨g2, o2, n, rfl, hcell, hn⟩ := HW2.out j hjM
           have hw := (hbw.cell (World.block_lt_of_cell? w _ hcell)).trans hcell
           obtain ⟨D, hD⟩ : ∃ D, N - j = D := ⟨_, rfl⟩
           have hD0 : 0 < D := by omega
           have q3 : IntKind.i64.wrap ((N : Int) - (j : Int)) = (D : Int) := by rw [IntKind.wrap_i64]; omega
           obtain ⟨r0, hr0⟩ : ∃ r0, n % D = r0 := ⟨_, rfl⟩
           have hrD : r0 < D := by rw [← hr0]; exact Nat.mod_lt _ hD0
           have q4 : (n : Int).tmod (D : Int) = (r0 : Int) := by rw [← hr0]; exact mod_i64 rfl hD0
           obtain ⟨k, hk⟩ : ∃ k, j + r0 = k := ⟨_, rfl⟩
           have q5 : IntKind.i64.wrap ((j : Int) + (r0 : Int)) = (k : Int) := by rw [IntKind.wrap_i64]; omega
           have q6 : IntKind.i64.wrap (n : Int) = (n : Int) := by rw [IntKind.wrap_i64]; omega
           have hkN : k < N := by omega
           obtain ⟨y, hy⟩ : ∃ y, b[j]? = some y := ⟨b[j]'(by rw [HBL.out]; omega), List.getElem?_eq_getElem _⟩
           obtain ⟨z, hz⟩ : ∃ z, b[k]? = some z := ⟨b[k]'(by rw [HBL.out]; omega), List.getElem?_eq_getElem _⟩
           have HY := Lib.hid hy
           have HZ := Lib.hid hz
           clear hcell hbw hr0 hrD hD hk
           go_upto_region 22 with fail
           clear q1 q2 q3 q4 q5 q6 hw
           obtain ⟨c0, c1, d2, d3, c4, c5', c6, c7, c8', c9⟩ := HA.out.at_ j y HY.out
           go_upto_region 23 with (refine wpList_store_row rfl 42 (.tmp 20) (.tmp 98) rfl wr.heap.size #[.int .u8 y.p.tos, .int .u16 y.p.id, .bool y.p.df, .bool y.p.mf, .int .i64 y.p.off, .int .u8 y.p.ttl, .int .u8 y.p.proto, .int .u32 y.p.src, .int .u32 y.p.dst, .slice y.B y.p.b.length y.c] rfl rfl 42 _ (heap_alloc_new wr _) ipSize rfl (by simp [Value.oneCell']) ?_; rw [setRow_alloc])
           clear c0 c1 d2 d3 c4 c5' c6 c7 c8' c9
           have HX9 : Hid (IpAt (wr.alloc (.cells #[.int .u8 y.p.tos, .int .u16 y.p.id, .bool y.p.df, .bool y.p.mf, .int .i64 y.p.off, .int .u8 y.p.ttl, .int .u8 y.p.proto, .int .u32 y.p.src, .int .u32 y.p.dst, .slice y.B y.p.b.length y.c] 42)) wr.heap.size y.p (.slice y.B y.p.b.length y.c)) := IpAt.new wr y.p (.slice y.B y.p.b.length y.c)
           have HB9 := Lib.hid (below_al (Below.refl _ wr) (.cells #[.int .u8 y.p.tos, .int .u16 y.p.id, .bool y.p.df, .bool y.p.mf, .int .i64 y.p.off, .int .u8 y.p.ttl, .int .u8 y.p.proto, .int .u32 y.p.src, .int .u32 y.p.dst, .slice y.B y.p.b.length y.c] 42))
           have HGX : Hid (g8 < wr.heap.size) := HA.out.lt
           generalize wr.alloc (.cells #[.int .u8 y.p.tos, .int .u16 y.p.id, .bool y.p.df, .bool y.p.mf, .int .i64 y.p.off, .int .u8 y.p.ttl, .int .u8 y.p.proto, .int .u32 y.p.src, .int .u32 y.p.dst, .slice y.B y.p.b.length y.c] 42) = w9 at HX9 HB9 ⊢
           obtain ⟨Xb, hXb⟩ : ∃ Xb, wr.heap.size = Xb := ⟨_, rfl⟩
           rw [hXb] at HX9 HGX ⊢
           clear hXb
           have HA9 := Lib.hid (HA.out.below HB9.out)
           have HT9 := Lib.hid (HA9.out.there (k := j) (by rw [HBL.out]; omega))
           obtain ⟨c0, c1, d2, d3, c4, c5', c6, c7, c8', c9⟩ := HA9.out.at_ k z HZ.out
           go_upto_region 24 with (refine wpList_store_mid rfl 42 (.tmp 105) (.tmp 104) rfl g8 (o8 + j * 10) #[.int .u8 z.p.tos, .int .u16 z.p.id, .bool z.p.df, .bool z.p.mf, .int .i64 z.p.off, .int .u8 z.p.ttl, .int .u8 z.p.proto, .int .u32 z.p.src, .int .u32 z.p.dst, .slice z.B z.p.b.length z.c] rfl rfl HT9.out ipSize (by simp [Value.oneCell']) ?_)
           clear c0 c1 d2 d3 c4 c5' c6 c7 c8' c9
           have hyo := HA9.out.own y (List.mem_of_getElem? HY.out)
           have hzo := HA9.out.own z (List.mem_of_getElem? HZ.out)
           have HA10 : Hid (Ar w5 (w9.setCells g8 (o8 + j * 10) [.int .u8 z.p.tos, .int .u16 z.p.id, .bool z.p.df, .bool z.p.mf, .int .i64 z.p.off, .int .u8 z.p.ttl, .int .u8 z.p.proto, .int .u32 z.p.src, .int .u32 z.p.dst, .slice z.B z.p.b.length z.c]) g8 o8 (b.set j z)) := HA9.out.set (by rw [HBL.out]; omega) hzo
           have hyo2 : (w9.setCells g8 (o8 + j * 10) [.int .u8 z.p.tos, .int .u16 z.p.id, .bool z.p.df, .bool z.p.mf, .int .i64 z.p.off, .int .u8 z.p.ttl, .int .u8 z.p.proto, .int .u32 z.p.src, .int .u32 z.p.dst, .slice z.B z.p.b.length z.c]).ownsRow w5.heap.size 5 1 y.sl y.p.b.length (y.p.b.map B8) := HA9.out.keep hyo _ _
           have HY10 := Lib.hid hyo2
           have HX10 : Hid (IpAt (w9.setCells g8 (o8 + j * 10) [.int .u8 z.p.tos, .int .u16 z.p.id, .bool z.p.df, .bool z.p.mf, .int .i64 z.p.off, .int .u8 z.p.ttl, .int .u8 z.p.proto, .int .u32 z.p.src, .int .u32 z.p.dst, .slice z.B z.p.b.length z.c]) Xb y.p (.slice y.B y.p.b.length y.c)) := (World.heap_setCells_other w9 g8 _ _ HX9.out.lt (fun e => by have := HGX.out; omega)).trans HX9.out
           clear hyo hzo hyo2
           generalize w9.setCells g8 (o8 + j * 10) [.int .u8 z.p.tos, .int .u16 z.p.id, .bool z.p.df, .bool z.p.mf, .int .i64 z.p.off, .int .u8 z.p.ttl, .int .u8 z.p.proto, .int .u32 z.p.src, .int .u32 z.p.dst, .slice z.B z.p.b.length z.c] = w10 at HA10 HY10 HX10 ⊢
           have HT10 := Lib.hid (HA10.out.there (k := k) (by rw [List.length_set, HBL.out]; omega))
           obtain ⟨c0, c1, d2, d3, c4, c5', c6, c7, c8', c9⟩ := HX10.out.cells
           have HA11 : Hid (Ar w5 (w10.setCells g8 (o8 + k * 10) [.int .u8 y.p.tos, .int .u16 y.p.id, .bool y.p.df, .bool y.p.mf, .int .i64 y.p.off, .int .u8 y.p.ttl, .int .u8 y.p.proto, .int .u32 y.p.src, .int .u32 y.p.dst, .slice y.B y.p.b.length y.c]) g8 o8 ((b.set j z).set k y)) := HA10.out.set (by rw [List.length_set, HBL.out]; omega) HY10.out
           have HP11 : Hid (((b.set j z).set k y).Perm a) := (swap_perm HY.out HZ.out).trans HBP.out
           clear HA10 HY10 HX10 HX9 HT9 HA9 HB9 HA HBL HY HZ HBP
           go_upto_region 20 with (refine wpList_store_mid rfl 42 (.tmp 109) (.tmp 108) rfl g8 (o8 + k * 10) #[.int .u8 y.p.tos, .int .u16 y.p.id, .bool y.p.df, .bool y.p.mf, .int .i64 y.p.off, .int .u8 y.p.ttl, .int .u8 y.p.proto, .int .u32 y.p.src, .int .u32 y.p.dst, .slice y.B y.p.b.length y.c] rfl rfl HT10.out ipSize (by simp [Value.oneCell']) ?_)
           generalize w10.setCells g8 (o8 + k * 10) [.int .u8 y.p.tos, .int .u16 y.p.id, .bool y.p.df, .bool y.p.mf, .int .i64 y.p.off, .int .u8 y.p.ttl, .int .u8 y.p.proto, .int .u32 y.p.src, .int .u32 y.p.dst, .slice y.B y.p.b.length y.c] = w11 at HA11 ⊢
           clear c0 c1 d2 d3 c4 c5' c6 c7 c8' c9 HT10
           go_wp2_with fail
           exact ⟨⟨j + 1, (b.set j z).set k y, by simp, by omega, HP11.out, HA11.out⟩, by simp [intOf]; omega⟩
         · have hx : ∃ b : List Pv, b.Perm a ∧ Ar w5 wr g8 o8 b := ⟨b, HBP.out, HA.out⟩
           have HXX := Lib.hid hx
           clear hx HA HBP HBL
           by_cases h1 : j < N
           · have h2 : ¬ j < M2 := fun h => hlt ⟨h1, h⟩
             have q1 : decide ((j : Int) < (N : Int)) = true := decide_eq_true (by omega)
             have q2 : decide ((j : Int) < (M2 : Int)) = false := decide_eq_false (by omega)
             go_wp2_with fail
             go_meet
             exact HXX.out
           · have q1 : decide ((j : Int) < (N : Int)) = false := decide_eq_false (by omega)
             go_wp2_with fail
             go_meet
             exact HXX.out
      obtain ⟨b, hb, hA⟩ := hcut
      generalize wc = w8 at *
      have hPB := HPA.out.perm (hb.map Pv.p)
      have hbl : b.length = N := by rw [hb.length_eq, HN.out]
      have hPI2 : ∀ x ∈ b, x.p.In ∧ x.p.b.length ≤ 2000 := fun x hx => HPI.out x (hb.mem_iff.1 hx)
      have HPB := Lib.hid hPB
      have HBL := Lib.hid hbl
      have HPI2 := Lib.hid hPI2
      have HA8 := Lib.hid hA
      have Bw8 := Lib.hid (below_to Bw5.out hA.base Bw5.out.size)
      have M8 := Lib.hid ((hA.base.block G HG5.out).trans M5.out)
      have R8 := Lib.hid (R5.out.below hA.base)
      have hG8 : G < w8.heap.size := by have := hA.base.size; have := HG5.out; omega
      have XN := Lib.hid (Fx.new XX.out (Below.refl w8.heap.size w8) (tm := 9) (by unfold UW; omega))
      clear hb hA hPB hbl hPI2 HPA HPI HAR M5 R5 P5 HLM HLl hne
      go_wp2_with (go_at_call 20; (with_reducible refine XN.out.mono ?_); rintro e w9 ⟨r, rfl, hF⟩; (have F9 := Lib.hid hF); clear hF)
      clear XN
      go_loopw [22] (fun s22 wr => ∃ (i : Nat) (S : List Hp), s22 = .int .i64 (i : Int) ∧ i ≤ N ∧ Fx R w8 (fun _ => False) wr r 9 S ∧ HeapIs S p.plain.key4 5 (seenJ (b.map Pv.p) i) ∧ S.length = (if seenJ (b.map Pv.p) i = [] then 0 else 1)) (fun s22 _ => N - (intOf s22).toNat)
      case atStart => exact ⟨0, [], rfl, Nat.zero_le _, F9.out, .inl ⟨seenJ_zero _, rfl⟩, by rw [seenJ_zero]; rfl⟩
      case round =>
        obtain ⟨i, S, rfl, hi, hF, hH, hSl⟩ := hrel
        have HF := Lib.hid hF
        have HH := Lib.hid hH
        have HSl := Lib.hid hSl
        clear hF hH hSl F9
        by_cases hlt : i < N
        · have q1 : decide ((i : Int) < (N : Int)) = true := decide_eq_true (by omega)
          obtain ⟨x, hx⟩ : ∃ x, b[i]? = some x := ⟨b[i]'(by rw [HBL.out]; exact hlt), List.getElem?_eq_getElem _⟩
          have hxm : x ∈ b := List.mem_of_getElem? hx
          have hxp : (b.map Pv.p)[i]? = some x.p := by rw [List.getElem?_map, hx]; rfl
          have hX8 := HA8.out.at_ i x hx
          have hX := hX8.below HF.out.base
          have ho8 := HA8.out.own x hxm
          have hr8 : Rd w8 (.slice x.B x.p.b.length x.c) x.p.b := own_rd ho8
          obtain ⟨hin, hfx⟩ := HPI2.out x hxm
          have hcap : x.c ≤ 9223372036854775807 := by
            obtain ⟨A', c', e, _, h3, _⟩ := own_shape ho8
            have h4 : Value.slice x.B x.p.b.length x.c = .slice A' x.p.b.length c' := e
            simp only [Value.slice.injEq] at h4
            omega
          have XT := Lib.hid (HF.out.take XX.out (now := 5) hin hfx (by unfold UW; omega) hcap (hr8.below HF.out.base) (fun hb a ha => .inl (rd_old hr8 hb a ha)))
          have BS := Lib.hid (fun S' o c b2 (hT : TakeR S x.p 5 S' o c b2) => back_step rfl rfl (p.plain_bad) HPB.out (HF.out.un XX.out).1 (by rw [HSl.out]; split <;> omega) hxp HH.out hT)
          have hlm : (b.map Pv.p).length = N := by rw [List.length_map, HBL.out]
          have HX8 := Lib.hid hX8
          have HR8 := Lib.hid hr8
          have HXP := Lib.hid hxp
          have HIC := Lib.hid (And.intro hin (And.intro hfx hcap))
          obtain ⟨c0, c1, d2, d3, c4, c5', c6, c7, c8', c9⟩ := hX
          clear hx hxm hxp hX8 ho8 hr8 hin hfx hcap
          by_cases hlast : i + 1 = N
          · have hla : i + 1 = (b.map Pv.p).length := by rw [hlm]; exact hlast
            go_upto_region 32 with (first
              | (go_at_call 21; (with_reducible refine XT.out.mono ?_); rintro e w9 ⟨S9, o9, n9, b9, hTR, hV, hF9, _⟩; (obtain ⟨rfl, rfl, ho, hH9, hl9⟩ := BS.out _ _ _ _ hTR); (rw [if_pos hla] at ho); subst ho; (obtain ⟨B6, d6, ev9, he9, hR9, hE9⟩ := hV); (obtain rfl : e = .returned (.tuple #[.agg #[.int .u8 p.tos, .int .u16 p.id, .bool false, .bool false, .int .i64 0, .int .u8 p.ttl, .int .u8 p.proto, .int .u32 p.src, .int .u32 p.dst, .slice B6 p.few.b.length d6], .bool true, ev9]) := he9); (obtain rfl : ev9 = .nilIface := by (rcases hE9 with ⟨_, h⟩ | ⟨h, _⟩; exact h; exact absurd rfl h)); (have F9 := Lib.hid hF9); (have H9 := Lib.hid hH9); (have L9 := Lib.hid hl9); (have R9 : Hid (Rd w9 (.slice B6 p.few.b.length d6) p.few.b) := hR9); clear hTR hF9 hH9 hl9 hR9 hE9)
              | (refine wpList_store_row rfl 42 (.tmp 23) (.tmp 126) rfl w9.heap.size #[.int .u8 p.tos, .int .u16 p.id, .bool false, .bool false, .int .i64 0, .int .u8 p.ttl, .int .u8 p.proto, .int .u32 p.src, .int .u32 p.dst, .slice B6 p.few.b.length d6] rfl rfl 42 _ (heap_alloc_new w9 _) ipSize rfl (by simp [Value.oneCell']) ?_; rw [setRow_alloc]))
            clear c0 c1 d2 d3 c4 c5' c6 c7 c8' c9 XT BS
            have B10 := Lib.hid ((Below.refl w9.heap.size w9).alloc (Nat.le_refl _) (.cells #[.int .u8 p.tos, .int .u16 p.id, .bool false, .bool false, .int .i64 0, .int .u8 p.ttl, .int .u8 p.proto, .int .u32 p.src, .int .u32 p.dst, .slice B6 p.few.b.length d6] 42))
            have M10 : Hid ((w9.alloc (.cells #[.int .u8 p.tos, .int .u16 p.id, .bool false, .bool false, .int .i64 0, .int .u8 p.ttl, .int .u8 p.proto, .int .u32 p.src, .int .u32 p.dst, .slice B6 p.few.b.length d6] 42)).heap[w9.heap.size]? = some (.cells #[.int .u8 p.tos, .int .u16 p.id, .bool false, .bool false, .int .i64 0, .int .u8 p.ttl, .int .u8 p.proto, .int .u32 p.src, .int .u32 p.dst, .slice B6 p.few.b.length d6] 42)) := Lib.hid (heap_alloc_new w9 _)
            generalize w9.alloc (.cells #[.int .u8 p.tos, .int .u16 p.id, .bool false, .bool false, .int .i64 0, .int .u8 p.ttl, .int .u8 p.proto, .int .u32 p.src, .int .u32 p.dst, .slice B6 p.few.b.length d6] 42) = w10 at B10 M10 ⊢
            obtain ⟨Q, hQ⟩ : ∃ Q, w9.heap.size = Q := ⟨_, rfl⟩
            rw [hQ] at M10 ⊢
            clear hQ
            have F10 := Lib.hid (F9.out.to XX.out B10.out)
            have hR10 := R9.out.below B10.out
            have hb10 : Below w8.heap.size w8 w10 := F10.out.base
            have hM10 := (hb10.block G hG8).trans M8.out
            have hR8 := R8.out.below hb10
            have hpin := Ip.plain_in Hfit.out
            have KS : Hid (∀ W', Below w10.heap.size w10 W' → (fun W' : World => W'.cell? ⟨Q, 0, none⟩ = some (.int .u8 p.tos) ∧ W'.cell? ⟨Q, 1, none⟩ = some (.int .u16 p.id) ∧ W'.cell? ⟨Q, 2, none⟩ = some (.bool false) ∧ W'.cell? ⟨Q, 3, none⟩ = some (.bool false) ∧ W'.cell? ⟨Q, 4, none⟩ = some (.int .i64 0) ∧ W'.cell? ⟨Q, 5, none⟩ = some (.int .u8 p.ttl) ∧ W'.cell? ⟨Q, 6, none⟩ = some (.int .u8 p.proto) ∧ W'.cell? ⟨Q, 7, none⟩ = some (.int .u32 p.src) ∧ W'.cell? ⟨Q, 8, none⟩ = some (.int .u32 p.dst) ∧ W'.cell? ⟨Q, 9, none⟩ = some (.slice B6 p.few.b.length d6) ∧ W'.cell? ⟨G, 0, none⟩ = some (.int .u8 p.tos) ∧ W'.cell? ⟨G, 1, none⟩ = some (.int .u16 p.id) ∧ W'.cell? ⟨G, 2, none⟩ = some (.bool false) ∧ W'.cell? ⟨G, 3, none⟩ = some (.bool false) ∧ W'.cell? ⟨G, 4, none⟩ = some (.int .i64 0) ∧ W'.cell? ⟨G, 5, none⟩ = some (.int .u8 p.ttl) ∧ W'.cell? ⟨G, 6, none⟩ = some (.int .u8 p.proto) ∧ W'.cell? ⟨G, 7, none⟩ = some (.int .u32 p.src) ∧ W'.cell? ⟨G, 8, none⟩ = some (.int .u32 p.dst) ∧ W'.cell? ⟨G, 9, none⟩ = some (.slice (some ⟨g5, 0, none⟩) p.few.b.length c5)) W') := Lib.hid (fun W' hW => by
              have a := IpAt.cells (p := p.plain) (bv := .slice B6 p.few.b.length d6) ((hW.block Q (Array.getElem?_eq_some_iff.1 M10.out).1).trans M10.out)
              have b := IpAt.cells (p := p.plain) (bv := .slice (some ⟨g5, 0, none⟩) p.few.b.length c5) ((hW.block G (Array.getElem?_eq_some_iff.1 hM10).1).trans hM10)
              exact ⟨a.1, a.2.1, a.2.2.1, a.2.2.2.1, a.2.2.2.2.1, a.2.2.2.2.2.1, a.2.2.2.2.2.2.1, a.2.2.2.2.2.2.2.1, a.2.2.2.2.2.2.2.2.1, a.2.2.2.2.2.2.2.2.2, b⟩)
            have XO1 : Hid (∀ W, Below w10.heap.size w10 W → Calls Tryd.prog 16 #[.agg #[.int .u8 p.tos, .int .u16 p.id, .bool false, .bool false, .int .i64 0, .int .u8 p.ttl, .int .u8 p.proto, .int .u32 p.src, .int .u32 p.dst, .slice B6 p.few.b.length d6]] W fun e w' => e = .returned (.agg #[.int .u32 p.tos, .int .u32 p.id, .bool false, .bool false, .int .i64 0, .int .u32 p.ttl, .int .u32 p.proto, .int .u32 p.src, .int .u32 p.dst, .string (txt p.few.b)]) ∧ Below W.heap.size W w') := fun W hW => vOf_lit p.plain hpin B6 d6 W (hR10.below hW)
            have XO2 : Hid (∀ W, Below w10.heap.size w10 W → Calls Tryd.prog 16 #[.agg #[.int .u8 p.tos, .int .u16 p.id, .bool false, .bool false, .int .i64 0, .int .u8 p.ttl, .int .u8 p.proto, .int .u32 p.src, .int .u32 p.dst, .slice (some ⟨g5, 0, none⟩) p.few.b.length c5]] W fun e w' => e = .returned (.agg #[.int .u32 p.tos, .int .u32 p.id, .bool false, .bool false, .int .i64 0, .int .u32 p.ttl, .int .u32 p.proto, .int .u32 p.src, .int .u32 p.dst, .string (txt p.few.b)]) ∧ Below W.heap.size W w') := fun W hW => vOf_lit p.plain hpin (some ⟨g5, 0, none⟩) c5 W (hR8.below hW)
            have heq0 := fun W => refIp_eqB p.plain p.plain W
            simp only [ipB_same] at heq0
            have heq : ∀ W, (Op.equalIn 10000 45 (.agg #[.int .u32 p.tos, .int .u32 p.id, .bool false, .bool false, .int .i64 0, .int .u32 p.ttl, .int .u32 p.proto, .int .u32 p.src, .int .u32 p.dst, .string (txt p.few.b)]) (.agg #[.int .u32 p.tos, .int .u32 p.id, .bool false, .bool false, .int .i64 0, .int .u32 p.ttl, .int .u32 p.proto, .int .u32 p.src, .int .u32 p.dst, .string (txt p.few.b)])).run Tryd.prog W = .ok true W := heq0
            have qn : IntKind.i64.wrap ((N : Int) - 1) = (i : Int) := by rw [IntKind.wrap_i64]; omega
            clear hR10 hb10 hM10 hR8 hpin heq0 M10 B10 R9
            as_aux_lemma =>
            go_region_held_law (fun W' : World => W'.cell? ⟨Q, 0, none⟩ = some (.int .u8 p.tos) ∧ W'.cell? ⟨Q, 1, none⟩ = some (.int .u16 p.id) ∧ W'.cell? ⟨Q, 2, none⟩ = some (.bool false) ∧ W'.cell? ⟨Q, 3, none⟩ = some (.bool false) ∧ W'.cell? ⟨Q, 4, none⟩ = some (.int .i64 0) ∧ W'.cell? ⟨Q, 5, none⟩ = some (.int .u8 p.ttl) ∧ W'.cell? ⟨Q, 6, none⟩ = some (.int .u8 p.proto) ∧ W'.cell? ⟨Q, 7, none⟩ = some (.int .u32 p.src) ∧ W'.cell? ⟨Q, 8, none⟩ = some (.int .u32 p.dst) ∧ W'.cell? ⟨Q, 9, none⟩ = some (.slice B6 p.few.b.length d6) ∧ W'.cell? ⟨G, 0, none⟩ = some (.int .u8 p.tos) ∧ W'.cell? ⟨G, 1, none⟩ = some (.int .u16 p.id) ∧ W'.cell? ⟨G, 2, none⟩ = some (.bool false) ∧ W'.cell? ⟨G, 3, none⟩ = some (.bool false) ∧ W'.cell? ⟨G, 4, none⟩ = some (.int .i64 0) ∧ W'.cell? ⟨G, 5, none⟩ = some (.int .u8 p.ttl) ∧ W'.cell? ⟨G, 6, none⟩ = some (.int .u8 p.proto) ∧ W'.cell? ⟨G, 7, none⟩ = some (.int .u32 p.src) ∧ W'.cell? ⟨G, 8, none⟩ = some (.int .u32 p.dst) ∧ W'.cell? ⟨G, 9, none⟩ = some (.slice (some ⟨g5, 0, none⟩) p.few.b.length c5))
              (first | exact KS.out _ (below_drewF w10) | exact KS.out _ HQ.out)
              (first
                | (go_at_call 16; (with_reducible refine (XO1.out _ HQ.out).mono ?_); rintro e wm ⟨rfl, hB⟩; (have HQ := Lib.hid (below_to HQ.out hB HQ.out.size)); clear hB)
                | (go_at_call 16; (with_reducible refine (XO2.out _ HQ.out).mono ?_); rintro e wm ⟨rfl, hB⟩; (have HQ := Lib.hid (below_to HQ.out hB HQ.out.size)); clear hB)
                | (go_at_call 16; (with_reducible refine (XO1.out _ (below_drewF w10)).mono ?_); rintro e wm ⟨rfl, hB⟩; (have HQ := Lib.hid (below_to (below_drewF w10) hB (below_drewF w10).size)); clear hB)
                | (go_at_call 16; (with_reducible refine (XO2.out _ (below_drewF w10)).mono ?_); rintro e wm ⟨rfl, hB⟩; (have HQ := Lib.hid (below_to (below_drewF w10) hB (below_drewF w10).size)); clear hB))
            all_goals
              clear KS XO1 XO2 heq
              go_wp2_with fail
              exact ⟨⟨i + 1, S9, by simp, by omega, F10.out.to XX.out HQ.out, H9.out, by have h := L9.out; have h2 := HSl.out; omega⟩, by simp [intOf]; omega⟩
          · have hla : ¬ i + 1 = (b.map Pv.p).length := by rw [hlm]; exact hlast
            go_upto_region 32 with (first
              | (go_at_call 21; (with_reducible refine XT.out.mono ?_); rintro e w9 ⟨S9, o9, n9, b9, hTR, hV, hF9, _⟩; (obtain ⟨rfl, rfl, ho, hH9, hl9⟩ := BS.out _ _ _ _ hTR); (rw [if_neg hla] at ho); subst ho; (obtain ⟨B6, d6, ev9, he9, hR9, hE9⟩ := hV); (obtain rfl : e = .returned (.tuple #[.agg #[.int .u8 noIp.tos, .int .u16 noIp.id, .bool noIp.df, .bool noIp.mf, .int .i64 noIp.off, .int .u8 noIp.ttl, .int .u8 noIp.proto, .int .u32 noIp.src, .int .u32 noIp.dst, .slice B6 noIp.b.length d6], .bool false, ev9]) := he9); (obtain rfl : ev9 = .nilIface := by (rcases hE9 with ⟨_, h⟩ | ⟨h, _⟩; exact h; exact absurd rfl h)); (have F9 := Lib.hid hF9); (have H9 := Lib.hid hH9); (have L9 := Lib.hid hl9); clear hTR hF9 hH9 hl9 hR9 hE9)
              | (refine wpList_store_row rfl 42 (.tmp 23) (.tmp 126) rfl w9.heap.size #[.int .u8 noIp.tos, .int .u16 noIp.id, .bool noIp.df, .bool noIp.mf, .int .i64 noIp.off, .int .u8 noIp.ttl, .int .u8 noIp.proto, .int .u32 noIp.src, .int .u32 noIp.dst, .slice B6 noIp.b.length d6] rfl rfl 42 _ (heap_alloc_new w9 _) ipSize rfl (by simp [Value.oneCell']) ?_; rw [setRow_alloc]))
            clear c0 c1 d2 d3 c4 c5' c6 c7 c8' c9 XT BS
            have B10 := Lib.hid ((Below.refl w9.heap.size w9).alloc (Nat.le_refl _) (.cells #[.int .u8 noIp.tos, .int .u16 noIp.id, .bool noIp.df, .bool noIp.mf, .int .i64 noIp.off, .int .u8 noIp.ttl, .int .u8 noIp.proto, .int .u32 noIp.src, .int .u32 noIp.dst, .slice B6 noIp.b.length d6] 42))
            generalize w9.alloc (.cells #[.int .u8 noIp.tos, .int .u16 noIp.id, .bool noIp.df, .bool noIp.mf, .int .i64 noIp.off, .int .u8 noIp.ttl, .int .u8 noIp.proto, .int .u32 noIp.src, .int .u32 noIp.dst, .slice B6 noIp.b.length d6] 42) = w10 at B10 ⊢
            have F10 := Lib.hid (F9.out.to XX.out B10.out)
            obtain ⟨N1, hN1⟩ : ∃ N1 : Int, (N : Int) - 1 = N1 := ⟨_, rfl⟩
            have qn : IntKind.i64.wrap ((N : Int) - 1) = N1 := by rw [IntKind.wrap_i64]; omega
            have qe : ((i : Int) == N1) = false := by rw [beq_eq_false_iff_ne]; omega
            have hL9 : S9.length = (if seenJ (b.map Pv.p) (i + 1) = [] then 0 else 1) := by have h := L9.out; have h2 := HSl.out; omega
            have HL9 := Lib.hid hL9
            clear hN1 hL9 L9 F9 B10
            go_quiet (fail)
            go_upto_region 34 with fail
            have B11 : Hid (Below w10.heap.size w10 (w10.drewN nq)) := ⟨rfl, rfl, rfl, Nat.le_refl _, fun _ _ => rfl⟩
            generalize w10.drewN nq = w11 at B11 ⊢
            have F11 := Lib.hid (F10.out.to XX.out B11.out)
            clear B11 F10 qn qe
            by_cases hr3 : i < M3
            · have q3 : decide ((i : Int) < (M3 : Int)) = true := decide_eq_true (by omega)
              obtain ⟨g3, o3, bv, rfl, hcell⟩ := HW3.out i hr3
              have hw := ((below_to Bw8.out F11.out.base Bw8.out.size).cell (World.block_lt_of_cell? w _ hcell)).trans hcell
              clear hcell
              cases bv with
              | false =>
                as_aux_lemma =>
                go_wp2_with fail
                exact ⟨⟨i + 1, S9, by simp, by omega, F11.out, H9.out, HL9.out⟩, by simp [intOf]; omega⟩
              | true =>
                have hX := HX8.out.below F11.out.base
                have XT2 := Lib.hid (F11.out.take XX.out (now := 6) HIC.out.1 HIC.out.2.1 (by unfold UW; omega) HIC.out.2.2 (HR8.out.below F11.out.base) (fun hb a ha => .inl (rd_old HR8.out hb a ha)))
                have BS2 := Lib.hid (fun S' o c b2 (hT : TakeR S9 x.p 6 S' o c b2) => back_again rfl rfl HPB.out (F11.out.un XX.out).1 (by rw [HL9.out]; split <;> omega) HXP.out (by omega) H9.out hT)
                obtain ⟨c0, c1, d2, d3, c4, c5', c6, c7, c8', c9⟩ := hX
                as_aux_lemma =>
                go_upto_region 36 with (first
                  | (go_at_call 21; (with_reducible refine XT2.out.mono ?_); rintro e w12 ⟨S12, o12, n12, b12, hTR, hV, hF12, _⟩; (obtain ⟨rfl, rfl, rfl, hH12, hl12⟩ := BS2.out _ _ _ _ hTR); (obtain ⟨B7, d7, ev12, he12, hR12, hE12⟩ := hV); (obtain rfl : e = .returned (.tuple #[.agg #[.int .u8 noIp.tos, .int .u16 noIp.id, .bool noIp.df, .bool noIp.mf, .int .i64 noIp.off, .int .u8 noIp.ttl, .int .u8 noIp.proto, .int .u32 noIp.src, .int .u32 noIp.dst, .slice B7 noIp.b.length d7], .bool false, ev12]) := he12); (obtain rfl : ev12 = .nilIface := by (rcases hE12 with ⟨_, h⟩ | ⟨h, _⟩; exact h; exact absurd rfl h)); (have F12 := Lib.hid hF12); (have H12 := Lib.hid hH12); (have L12 := Lib.hid hl12); clear hTR hF12 hH12 hl12 hR12 hE12)
                  | (refine wpList_store_row rfl 42 (.tmp 26) (.tmp 171) rfl w12.heap.size #[.int .u8 noIp.tos, .int .u16 noIp.id, .bool noIp.df, .bool noIp.mf, .int .i64 noIp.off, .int .u8 noIp.ttl, .int .u8 noIp.proto, .int .u32 noIp.src, .int .u32 noIp.dst, .slice B7 noIp.b.length d7] rfl rfl 42 _ (heap_alloc_new w12 _) ipSize rfl (by simp [Value.oneCell']) ?_; rw [setRow_alloc]))
                clear c0 c1 d2 d3 c4 c5' c6 c7 c8' c9 XT2 BS2 hw
                have B13 := Lib.hid ((Below.refl w12.heap.size w12).alloc (Nat.le_refl _) (.cells #[.int .u8 noIp.tos, .int .u16 noIp.id, .bool noIp.df, .bool noIp.mf, .int .i64 noIp.off, .int .u8 noIp.ttl, .int .u8 noIp.proto, .int .u32 noIp.src, .int .u32 noIp.dst, .slice B7 noIp.b.length d7] 42))
                generalize w12.alloc (.cells #[.int .u8 noIp.tos, .int .u16 noIp.id, .bool noIp.df, .bool noIp.mf, .int .i64 noIp.off, .int .u8 noIp.ttl, .int .u8 noIp.proto, .int .u32 noIp.src, .int .u32 noIp.dst, .slice B7 noIp.b.length d7] 42) = w13 at B13 ⊢
                go_wp2_with fail
                exact ⟨⟨i + 1, S12, by simp, by omega, F12.out.to XX.out B13.out, H12.out, by rw [L12.out]; exact HL9.out⟩, by simp [intOf]; omega⟩
            · have q3 : decide ((i : Int) < (M3 : Int)) = false := decide_eq_false (by omega)
              as_aux_lemma =>
              go_wp2_with fail
              exact ⟨⟨i + 1, S9, by simp, by omega, F11.out, H9.out, HL9.out⟩, by simp [intOf]; omega⟩
        · have q1 : decide ((i : Int) < (N : Int)) = false := decide_eq_false (by omega)
          have hs0 : S.length = 0 := by
            rw [HSl.out, show i = (b.map Pv.p).length by rw [List.length_map, HBL.out]; omega, seenJ_all]
            rfl
          have XL := Lib.hid (HF.out.len XX.out)
          rw [hs0] at XL
          clear hs0 HH HSl
          go_wp2_with (go_at_call 22; (with_reducible refine XL.out.mono ?_); rintro e w7 ⟨rfl, hw7⟩; subst w7)
          go_ret
          exact ⟨rfl, below_to Bw8.out HF.out.base Bw8.out.size⟩
end Go.Proofs.YtdmogppkambgaaaDoor
namespace Go.Proofs.YtdmogppkambgaaaDoor
open Go Go.ChangeShapes Go.WideShapes Go.RowKit

/-- The contract. -/
def FragBackDoes : Prop := ∀ (p0 : Ip) (A0 : Option Addr) (c0 : Nat) (n1 : Int) (A2 : Option Addr) (M2 c2 : Nat) (A3 : Option Addr) (M3 c3 : Nat) (n4 : Int) (w : World), Hdl w → p0.Fit → Rd w (.slice A0 p0.b.length c0) p0.b → c0 ≤ 9223372036854775807 → -9223372036854775808 ≤ n1 → n1 ≤ 9223372036854775807 → WordsIn w A2 M2 → M2 ≤ c2 → c2 ≤ 9223372036854775807 → BoolsAt2 w A3 M3 → M3 ≤ c3 → c3 ≤ 9223372036854775807 → -9223372036854775808 ≤ n4 → n4 ≤ 9223372036854775807 → Calls Tryd.prog 5 #[p0.val (.slice A0 p0.b.length c0), .int .i64 n1, .slice A2 M2 c2, .slice A3 M3 c3, .int .i64 n4] w fun e w' => e = .returned (.bool true) ∧ Below w.heap.size w w'

set_option maxRecDepth 100000 in
theorem fragBack_lifted (hc : FragBackDoes) (os : Os) (started : os.Started) (H : Type) (enc : TypeId × Value → H) :
    ReturnsInHanded {} Tryd.checked os 5 .any (fun w args => (Rows.fragBackSpec.pre enc Tryd.prog Tryd.f5 [] false w args ∧ laidMetH Tryd.prog laidList w) ∧ sizedMet enc Tryd.prog Tryd.f5 (OpenSpec.ofChange Rows.fragBackSpec) false w args)
      (Rows.fragBackSpec.post enc Tryd.prog Tryd.f5 false true false false) := by
  refine returnsInHanded_of_change_and (C := Tryd.checked) (X := fun w _ => laidMetH Tryd.prog laidList w) (fun _ _ _ hh h => h.of_heap hh) ownGodebug started (by kernel_rfl) Tryd.func5
    (ChangeSpec.witness_at (enc := enc) (C := Tryd.checked) (os := os) (X := fun w _ => laidMetH Tryd.prog laidList w) false (laidWorld os) #[.agg #[.int .u8 0, .int .u16 0, .bool false, .bool false, .int .i64 0, .int .u8 0, .int .u8 0, .int .u32 0, .int .u32 0, .slice none 0 0], .int .i64 0, .slice none 0 0, .slice none 0 0, .int .i64 0] 8 rfl (by kernel_rfl) (by kernel_rfl) (by kernel_rfl) (by kernel_rfl) (by kernel_rfl) (laidWorld_met os _)) ?_
  intro W base args ds gs before hval0 hW _ _ hL _
  have hval : ∀ (j : Nat) t v, Tryd.f5.params[j]? = some t → args[j]? = some v → Value.okWide Tryd.prog W .any base t v := hval0
  have hW' := hW
  obtain ⟨p, q, hA0, hV0, rfl, hfz, hnd⟩ := hW
  have hA : DataW.TrodAll enc Tryd.prog W 0 (fun _ => true) true Tryd.f5.params.toList args.toList ds p := hA0
  have hV : DataW.TrodVars enc Tryd.prog W (fun _ => true) [] gs q := hV0
  rw [Tryd.params5] at hA hval
  obtain ⟨v0, vs0, d0, ds0, p0, q0, hargs, rfl, rfl, h0, r0⟩ := trodAll_cons hA
  obtain ⟨v1, vs1, d1, ds1, p1, q1, rfl, rfl, rfl, h1, r1⟩ := trodAll_cons r0
  obtain ⟨v2, vs2, d2, ds2, p2, q2, rfl, rfl, rfl, h2, r2⟩ := trodAll_cons r1
  obtain ⟨v3, vs3, d3, ds3, p3, q3, rfl, rfl, rfl, h3, r3⟩ := trodAll_cons r2
  obtain ⟨v4, vs4, d4, ds4, p4, q4, rfl, rfl, rfl, h4, r4⟩ := trodAll_cons r3
  obtain ⟨rfl, rfl, rfl⟩ := trodAll_nil r4
  obtain rfl : args = #[v0, v1, v2, v3, v4] := by cases args; simpa using hargs
  obtain ⟨rfl, rfl⟩ := trodVars_none hV
  obtain ⟨p0, A0, c0, rfl, b0, e0, a0⟩ := open_ip (hval 0 42 v0 rfl rfl) h0
  obtain ⟨n1, rfl, rfl, rfl, w1⟩ := open_int Tryd.underlying3 (hval 1 3 v1 rfl rfl) h1
  obtain ⟨A2, M2, c2, rfl, a2, b2, e2⟩ := open_words (hval 2 55 v2 rfl rfl) h2
  obtain ⟨A3, M3, c3, rfl, a3, b3, e3⟩ := open_bools (hval 3 56 v3 rfl rfl) h3
  obtain ⟨n4, rfl, rfl, rfl, w4⟩ := open_int Tryd.underlying3 (hval 4 3 v4 rfl rfl) h4
  refine (hc p0 A0 c0 n1 A2 M2 c2 A3 M3 c3 n4 W (hdl_of_laid hL) a0 e0 b0 (i64_wf w1).1 (i64_wf w1).2 e2 a2 b2 e3 a3 b3 (i64_wf w4).1 (i64_wf w4).2).mono fun e W' ⟨he, hb⟩ => ?_
  subst he
  exact ⟨_, rfl, law_post rfl rfl rfl (by rw [Tryd.params5]; intro t ht; simp at ht; (first | (rcases ht with rfl | rfl | rfl | rfl | rfl) | (rcases ht with rfl | rfl | rfl | rfl)) <;> (try subst ht) <;> exact ⟨by kernel_rfl, by rw [typesSize]; decide⟩) hW' hb⟩
theorem fragBack_row (hc : FragBackDoes) : Rows.FragBackSaid :=
  OpenClaim.holds_of_wide 5 Tryd.f5 rfl rfl rfl rfl rfl rfl rfl ⟨rfl, rfl, rfl, rfl, rfl⟩ rfl rfl rfl rfl rfl (by kernel_rfl) Tryd.func5 (by kernel_rfl)
    (of_decide_eq_true (by kernel_rfl)) (by unfold Func.isWrapper; rw [if_neg (of_decide_eq_false (by kernel_rfl))]; exact ⟨rfl, rfl⟩)
    (fun os started H enc _ => fragBack_lifted hc os started H enc)
theorem fragBack_card (hrow : Rows.FragBackSaid) : Rows.FragBackCardSaid :=
  Claim7.holds_tied_plain_at .later [] [.handle] true _ true
    hrow (fun _ h => by cases h) (by kernel_rfl) (fun _ h => by cases h) fragBack_row_tie rfl ⟨rfl, rfl⟩ (by kernel_rfl) rfl
    (fun f fn hf hfn => by
      obtain rfl : f = 5 := Option.some.inj ((show Tryd.prog.funcNamed "underpass/underpasslaw10.FragBack" = some 5 by kernel_rfl).symm.trans hf) |>.symm
      obtain rfl : fn = Tryd.f5 := (Option.some.inj (Tryd.func5.symm.trans hfn)).symm
      exact ⟨by kernel_rfl, fun j t ht => by
        rw [Tryd.params5] at ht
        rcases j with _ | _ | _ | _ | _ | j
        · have h3 : t = 42 := by simpa using ht.symm
          subst h3
          exact (show Tryd.prog.wantsStandIn 42 = false by kernel_rfl)
        · have h3 : t = 3 := by simpa using ht.symm
          subst h3
          exact (show Tryd.prog.wantsStandIn 3 = false by kernel_rfl)
        · have h3 : t = 55 := by simpa using ht.symm
          subst h3
          exact (show Tryd.prog.wantsStandIn 55 = false by kernel_rfl)
        · have h3 : t = 56 := by simpa using ht.symm
          subst h3
          exact (show Tryd.prog.wantsStandIn 56 = false by kernel_rfl)
        · have h3 : t = 3 := by simpa using ht.symm
          subst h3
          exact (show Tryd.prog.wantsStandIn 3 = false by kernel_rfl)
        · simp at ht⟩)
    (by kernel_rfl)
end Go.Proofs.YtdmogppkambgaaaDoor
namespace Go.Proofs.YtdmogppkambgaaaDoor
theorem fragBack_any : FragBackDoes := fun p A c m A2 M2 c2 A3 M3 c3 y w hg hf hr hc _ _ h2 hM2 hc2 h3 hM3 hc3 _ _ => fragBack_of frag_ok fshown_any p A c m A2 M2 c2 A3 M3 c3 y w hg hf hc hr h2 hM2 hc2 h3 hM3 hc3
theorem fragBack_holds : Rows.FragBackCardSaid := fragBack_card (fragBack_row fragBack_any)
end Go.Proofs.YtdmogppkambgaaaDoor
