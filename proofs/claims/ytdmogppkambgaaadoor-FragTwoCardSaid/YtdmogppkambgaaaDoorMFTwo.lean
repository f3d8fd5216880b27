/-
  What is proved: what one part more does to a reassembler that holds parts of two packets; the reassembler beside a law's own array that is written over behind New.
  Conditions: package frag's contracts, handed in.
  What is proved: arguments that are slices of numbers or of bools, opened (beside a packet).
  Conditions: none of its own.
  What is proved: FragTwo by contract, out of those of package frag: the law returns true, and older memory is as it was.
  Conditions: those of the arguments; package frag's contracts, and that of 'shown', handed in.
  What is proved: the row and the tied card of FragTwo out of its function's contract.
  Conditions: the contract, handed in; the listed package-level variables start as the program's text lays them (the card ties them).
  What is proved: FragTwo: parts of two packets that come by turns in any way: each is whole when its own last part has come, and is what it was; the law returns true and leaves its arguments as they were (the tied card).
  Conditions: the listed package-level variables start as the program's text lays them (the card ties them).
-/
import Derived.Test.YtdmogppkambgaaaDoorMFg
import Derived.Test.YtdmogppkambgaaaDoorVLift
import Derived.Deep.Slices
import Derived.Test.YtdmogppkambgaaaDoorMFs
import Derived.Deep.DeepCutAuto
import Derived.Deep.CutBlock
import Derived.Deep.RegionHeldLaw
import Derived.Test.YtdmogppkambgaaaDoorBlk
import Derived.Test.YtdmogppkambgaaaDoorCards
import Derived.Test.YtdmogppkambgaaaDoorTie
import Derived.SevenTiedAt
namespace Go.Proofs.YtdmogppkambgaaaDoor
open Go.RowKit

/-- The parts of a packet that wait when j of them have come in order. -/
def seenJ (L : List Ip) (j : Nat) : List Ip := if L.length < 2 ∨ L.length ≤ j then [] else L.take j
theorem seenJ_zero (L : List Ip) : seenJ L 0 = [] := by unfold seenJ; split <;> simp
theorem seenJ_all (L : List Ip) : seenJ L L.length = [] := by unfold seenJ; simp
theorem HeapIs.other {S S' : List Hp} {k : Ky} {t : Int} {seen : List Ip} (h : HeapIs S k t seen) (e : hget S' k = hget S k) : HeapIs S' k t seen := by
  unfold HeapIs
  rw [e]
  exact h
theorem two_step {P x : Ip} {L : List Ip} {S S' : List Hp} {o : Option Ip} {c j : Nat} {b : Bool} (h0 : P.off = 0) (hm : P.mf = false) (hbad : P.bad = 0) (h1 : L.length = 1 → L = [P]) (h2 : 2 ≤ L.length → P.b ≠ [] ∧ Tile P 0 L ∧ ∀ x ∈ L, x.bad = 0)
    (hU : Un S) (h8 : S.length < 8) (hx : L[j]? = some x) (hH : HeapIs S P.key4 1 (seenJ L j)) (hT : TakeR S x 1 S' o c b) :
    c = 0 ∧ b = false ∧ o = (if j + 1 = L.length then some P else none) ∧ HeapIs S' P.key4 1 (seenJ L (j + 1)) ∧ S'.length + (if seenJ L j = [] then 0 else 1) = S.length + (if seenJ L (j + 1) = [] then 0 else 1) ∧ x.key4 = P.key4 := by
  have hj : j < L.length := (List.getElem?_eq_some_iff.1 hx).1
  by_cases hl : L.length < 2
  · have e := h1 (by omega)
    subst e
    have hj0 : j = 0 := by simp at hj; exact hj
    subst hj0
    obtain rfl : P = x := by simpa using hx
    obtain ⟨rfl, rfl, rfl, rfl⟩ := alone_take hbad ⟨h0, hm⟩ hT
    have e : ∀ i, seenJ [P] i = [] := fun i => by unfold seenJ; simp
    rw [e] at hH
    refine ⟨rfl, rfl, by simp, by rw [e]; exact hH, by rw [e, e], rfl⟩
  · obtain ⟨hb, hTl, hr⟩ := h2 (by omega)
    have es : seenJ L j = L.take j := by unfold seenJ; rw [if_neg (by omega)]
    have hxm : x ∈ L := List.mem_of_getElem? hx
    have hk := (tile_part h0 hm hTl (by omega) hxm).2
    rw [es] at hH ⊢
    have TT := take_tile h0 hm hb hTl (by omega) hr hU h8 hH (fun y hy => List.mem_of_mem_take hy) hxm (fun _ => rfl) hT
    by_cases hje : j + 1 = L.length
    · have hall : ∀ y ∈ L, y ∈ L.take j ∨ y = x := fun y hy => by
        obtain ⟨i, hi⟩ := List.getElem?_of_mem hy
        have hil := (List.getElem?_eq_some_iff.1 hi).1
        by_cases hij : i < j
        · exact .inl (take_mem hi hij)
        · obtain rfl : i = j := by omega
          rw [hx] at hi
          exact .inr (Option.some.inj hi).symm
      obtain ⟨ho, rfl, rfl, hn, hl2⟩ := TT.1 hall
      have e : seenJ L (j + 1) = [] := by rw [hje]; exact seenJ_all L
      rw [e]
      refine ⟨rfl, rfl, by rw [if_pos hje]; exact ho, .inl ⟨rfl, hn⟩, by simpa using hl2, hk⟩
    · have hj1 : j + 1 < L.length := by omega
      have hy : L[j + 1]? = some (L[j + 1]'hj1) := List.getElem?_eq_getElem hj1
      obtain ⟨ho, rfl, rfl, hn, hl2⟩ := TT.2 ⟨_, List.mem_of_getElem? hy, fun h => by
        rcases h with h | h
        · exact take_lt hTl.nodup hy (by omega) h
        · rw [h] at hy
          have := nodup_inj hTl.nodup hx hy
          omega⟩
      have e : seenJ L (j + 1) = L.take j ++ [x] := by
        unfold seenJ
        rw [if_neg (by omega), List.take_add_one, hx]
        rfl
      rw [e]
      refine ⟨rfl, rfl, by rw [if_neg hje]; exact ho, hn, ?_, hk⟩
      rw [hl2]
      by_cases hs : L.take j = [] <;> simp [hs]

/-- A reassembler beside older memory, one block of which is the law's own to write over. -/
structure Gx (R : World → Nat → (Nat → Prop) → Int → List Hp → Prop) (w : World) (H : Nat) (W : World) (r : Nat) (tm : Int) (S : List Hp) : Prop where
  ex : ∃ F, R W r F tm S ∧ ∀ k, F k → w.heap.size ≤ k
  lt : H < w.heap.size
  os : W.os = w.os
  tape : W.tape = w.tape
  output : W.output = w.output
  size : w.heap.size ≤ W.heap.size
  old : ∀ k, k < w.heap.size → k ≠ H → W.heap[k]? = w.heap[k]?
section
variable {R : World → Nat → (Nat → Prop) → Int → List Hp → Prop} {w W w' : World} {H r : Nat} {tm now : Int} {S : List Hp}
theorem Gx.new (X : FgOk R) (hH : H < W.heap.size) (htm : UW tm) : Calls Tryd.prog 20 #[.int .u64 tm] W fun e w' => ∃ r : Nat, e = .returned (.pointer (some ⟨r, 0, none⟩)) ∧ Gx R W H w' r tm [] ∧ w'.heap[H]? = W.heap[H]? := by
  refine (X.new tm W htm).mono ?_
  rintro e w' ⟨r, F, rfl, hR, hF, hB⟩
  exact ⟨r, rfl, ⟨⟨F, hR, hF⟩, hH, hB.os, hB.tape, hB.output, hB.size, fun k hk _ => hB.block k hk⟩, hB.block H hH⟩
theorem Gx.to (X : FgOk R) (h : Gx R w H W r tm S) (hb : Below W.heap.size W w') : Gx R w H w' r tm S := by
  obtain ⟨F, hR, hF⟩ := h.ex
  exact ⟨⟨F, X.at_ hR (fun k hk => hb.block k (X.flt hR k hk)) hb.size, hF⟩, h.lt, hb.os.trans h.os, hb.tape.trans h.tape, hb.output.trans h.output, Nat.le_trans h.size hb.size, fun k hk hn => (hb.block k (Nat.lt_of_lt_of_le hk h.size)).trans (h.old k hk hn)⟩
theorem Gx.un (X : FgOk R) (h : Gx R w H W r tm S) : Un S ∧ S.length ≤ 8 := by
  obtain ⟨F, hR, _⟩ := h.ex
  exact X.un hR
theorem Gx.set (X : FgOk R) (h : Gx R w H W r tm S) (i : Nat) (v : Value) : Gx R w H (W.setCell ⟨H, i, none⟩ v) r tm S := by
  obtain ⟨F, hR, hF⟩ := h.ex
  have hne : ∀ k, k ≠ H → (W.setCell ⟨H, i, none⟩ v).heap[k]? = W.heap[k]? := fun k hk => Below.heap_setCell _ _ _ _ hk
  have hz : (W.setCell ⟨H, i, none⟩ v).heap.size = W.heap.size := by simp
  exact ⟨⟨F, X.at_ hR (fun k hk => hne k (by have := hF k hk; have := h.lt; omega)) (Nat.le_of_eq hz.symm), hF⟩, h.lt, h.os, h.tape, h.output, by rw [hz]; exact h.size, fun k hk hn => (hne k hn).trans (h.old k hk hn)⟩
theorem Gx.take (X : FgOk R) (h : Gx R w H W r tm S) {p : Ip} {A : Option Addr} {c : Nat} (hp : p.In) (hl : p.b.length ≤ 2000) (hn : UW now) (hc : c ≤ 9223372036854775807) (hr : Rd W (.slice A p.b.length c) p.b) (hA : p.b ≠ [] → ∀ a, A = some a → a.block < w.heap.size) :
    Calls Tryd.prog 21 #[.pointer (some ⟨r, 0, none⟩), .agg #[.int .u8 p.tos, .int .u16 p.id, .bool p.df, .bool p.mf, .int .i64 p.off, .int .u8 p.ttl, .int .u8 p.proto, .int .u32 p.src, .int .u32 p.dst, .slice A p.b.length c], .int .u64 now] W fun e w' =>
      ∃ S' o n b, TakeR S p now S' o n b ∧ TakeVal o n b e w' ∧ Gx R w H w' r tm S' ∧ w'.heap[H]? = W.heap[H]? := by
  obtain ⟨F, hR, hF⟩ := h.ex
  refine (X.take S p now tm r F A c W hR hp hl hn hc hr (fun hb a ha hFa => by have := hF _ hFa; have := hA hb a ha; omega)).mono ?_
  rintro e w' ⟨S', o, n, b, F', hT, hV, hR', hD, _⟩
  refine ⟨S', o, n, b, hT, hV, ⟨⟨F', hR', fun k hk => ?_⟩, h.lt, hD.os.trans h.os, hD.tape.trans h.tape, hD.output.trans h.output, Nat.le_trans h.size hD.size, fun k hk hn => (hD.block k (Nat.lt_of_lt_of_le hk h.size) (fun e => by have := hF k e; omega)).trans (h.old k hk hn)⟩,
    hD.block H (Nat.lt_of_lt_of_le h.lt h.size) (fun e => by have := hF H e; have := h.lt; omega)⟩
  rcases hD.new k hk with e | e
  · exact hF k e
  · exact Nat.le_trans h.size e
theorem Gx.len (X : FgOk R) (h : Gx R w H W r tm S) : Calls Tryd.prog 22 #[.pointer (some ⟨r, 0, none⟩)] W fun e w' => e = .returned (.int .i64 (S.length : Int)) ∧ w' = W := by
  obtain ⟨F, hR, _⟩ := h.ex
  exact X.len S tm r F W hR
theorem Gx.below {w0 : World} (h : Gx R w H W r tm S) (hb : Below w0.heap.size w0 w) (hH : w0.heap.size ≤ H) : Below w0.heap.size w0 W :=
  ⟨h.os.trans hb.os, h.tape.trans hb.tape, h.output.trans hb.output, Nat.le_trans hb.size h.size, fun k hk => (h.old k (Nat.lt_of_lt_of_le hk hb.size) (by omega)).trans (hb.block k hk)⟩
/-- Older bytes beside it. -/
theorem Gx.rd (h : Gx R w H W r tm S) {A : Option Addr} {c : Nat} {bs : List UInt8} (hr : Rd w (.slice A bs.length c) bs) (hn : bs ≠ [] → ∀ a, A = some a → a.block ≠ H) : Rd W (.slice A bs.length c) bs := by
  by_cases hb : bs = []
  · subst hb
    obtain ⟨A', c', e, hc, _⟩ := hr
    exact ⟨A', c', e, hc, fun h0 => absurd h0 (by simp)⟩
  · obtain ⟨x, rfl⟩ := rd_some hr (List.length_pos_iff.2 hb)
    exact rd_blk hr (h.old x.block (rd_old hr hb x rfl) (hn hb x rfl))
end
end Go.Proofs.YtdmogppkambgaaaDoor
namespace Go.Proofs.YtdmogppkambgaaaDoor
open Go.ChangeShapes Go.WideShapes Go.RowKit Go.Deep

def WordsIn (w : World) (A : Option Addr) (M : Nat) : Prop := ∀ k, k < M → ∃ g o, ∃ n : Nat, A = some ⟨g, o, none⟩ ∧ w.cell? ⟨g, o + k, none⟩ = some (.int .u16 (n : Int)) ∧ n ≤ 65535
def BoolsAt2 (w : World) (A : Option Addr) (M : Nat) : Prop := ∀ k, k < M → ∃ g o b, A = some ⟨g, o, none⟩ ∧ w.cell? ⟨g, o + k, none⟩ = some (.bool b)
theorem u16_natF {n : Int} (h : (Lit.int .u16 n).wf = true) : ∃ m : Nat, n = (m : Int) ∧ m ≤ 65535 := by
  have hmin : IntKind.u16.min = 0 := by rfl
  have hmax : IntKind.u16.max = 65535 := by rfl
  simp [Lit.wf, hmin, hmax] at h
  exact ⟨n.toNat, by omega, by omega⟩
theorem words_of_ints : ∀ zs : List Int, (∀ n ∈ zs, (Lit.int .u16 n).wf = true) → ∃ ns : List Nat, (zs = ns.map fun (b : Nat) => (b : Int)) ∧ ∀ n ∈ ns, n ≤ 65535
  | [], _ => ⟨[], rfl, by simp⟩
  | z :: zs, h => by
    obtain ⟨a, rfl, ha⟩ := u16_natF (h z (List.mem_cons_self ..))
    obtain ⟨bs, rfl, hb⟩ := words_of_ints zs (fun n hn => h n (List.mem_cons_of_mem _ hn))
    exact ⟨a :: bs, rfl, by intro n hn; rcases List.mem_cons.1 hn with rfl | hn; exact ha; exact hb n hn⟩
section
variable {H : Type} {enc : TypeId × Value → H} {W : World}
set_option maxRecDepth 100000 in
theorem open_words {base : Nat} {v : Value} {d : DataW H} {ps : List MemPlace} (hv : Value.okWide Tryd.prog W .any base 55 v) (h : DataW.Trod enc Tryd.prog W 0 (fun _ => true) true 55 v d ps) :
    ∃ (A : Option Addr) (M c : Nat), v = .slice A M c ∧ M ≤ c ∧ c ≤ 9223372036854775807 ∧ WordsIn W A M := by
  obtain ⟨a0, len, cap, rfl⟩ := okWide_slice Tryd.underlying55 hv
  obtain ⟨fuel, hf⟩ := h
  have hc1 : Tryd.prog.cellsOf 39 = 1 := by kernel_rfl
  rcases open_ints Tryd.underlying55 Tryd.underlying39 hc1 hf with ⟨hcs, _⟩ | ⟨a, len', cap', zs, hcs, _, hle, hmax, hall, _, hcell, hwf⟩
  · simp [Value.cells] at hcs
    obtain ⟨rfl, rfl, rfl⟩ := hcs
    exact ⟨none, 0, 0, rfl, by omega, by omega, fun k hk => absurd hk (by omega)⟩
  · simp [Value.cells] at hcs
    obtain ⟨rfl, rfl, rfl⟩ := hcs
    simp only [if_true] at hall
    obtain ⟨ns, rfl, hns⟩ := words_of_ints zs hwf
    simp only [List.length_map] at hall hcell
    refine ⟨some a, len, cap, rfl, hle, by simp only [maxLen] at hmax; omega, fun k hk => ?_⟩
    obtain ⟨b, off, rfl, hj⟩ := ints_at (w := W) (a := a) (k := .u16) (zs := ns.map fun (b : Nat) => (b : Int)) (by simpa using hcell) (by simp; omega)
    have hi : k < ns.length := by omega
    have hu : ns[k]? = some ns[k] := List.getElem?_eq_getElem hi
    refine ⟨b, off, ns[k], rfl, ?_, hns _ (List.getElem_mem hi)⟩
    rw [hj k (by simpa using hi)]
    simp [List.getD, hu]
set_option maxRecDepth 100000 in
theorem open_bools {base : Nat} {v : Value} {d : DataW H} {ps : List MemPlace} (hv : Value.okWide Tryd.prog W .any base 56 v) (h : DataW.Trod enc Tryd.prog W 0 (fun _ => true) true 56 v d ps) :
    ∃ (A : Option Addr) (M c : Nat), v = .slice A M c ∧ M ≤ c ∧ c ≤ 9223372036854775807 ∧ BoolsAt2 W A M := by
  obtain ⟨a0, len, cap, rfl⟩ := okWide_slice Tryd.underlying56 hv
  obtain ⟨fuel, hf⟩ := h
  have hC : Tryd.prog.cellsOf 4 = 1 := by kernel_rfl
  rcases open_slice Tryd.underlying56 hf with ⟨hcs, _⟩ | ⟨a, len', cap', m, n, D, Pl, hcs, _, hle, hmax, hm, _, hall⟩
  · simp [Value.cells] at hcs
    obtain ⟨rfl, rfl, rfl⟩ := hcs
    exact ⟨none, 0, 0, rfl, by omega, by omega, fun k hk => absurd hk (by omega)⟩
  · simp [Value.cells] at hcs
    obtain ⟨rfl, rfl, rfl⟩ := hcs
    simp only [if_true] at hm
    refine ⟨some a, len, cap, rfl, hle, by simp only [maxLen] at hmax; omega, fun k hk => ?_⟩
    have hspot : ∃ b off, a = ⟨b, off, none⟩ := by
      obtain ⟨cs0, hc0, _⟩ := hall 0 (by omega)
      rw [hC] at hc0
      obtain ⟨_, hl0, hat0⟩ := World.cells?_some hc0
      have h5 := hat0 0 (by omega)
      have h6 : cs0[0]? = some (cs0[0]'(by omega)) := List.getElem?_eq_getElem (by omega)
      rw [h6] at h5
      have h7 := World.cell?_spot h5
      obtain ⟨b, off, spot⟩ := a
      refine ⟨b, off, ?_⟩
      have h8 : spot = none := by simpa [Addr.add] using h7
      rw [h8]
    obtain ⟨b, off, rfl⟩ := hspot
    obtain ⟨cs, hc, ht⟩ := hall k (by omega)
    rw [hC] at hc
    obtain ⟨_, hl, hat⟩ := World.cells?_some hc
    match cs, hl with
    | [c0], _ =>
      obtain ⟨b0, e0, _⟩ := DataW.trod_bool Tryd.underlying4 ht
      have e0' : c0 = .bool b0 := by simpa using e0
      subst e0'
      have a0 := hat 0 (by omega)
      simp only [Addr.add_lit] at a0
      exact ⟨b, off, b0, rfl, by simpa using a0⟩
end
end Go.Proofs.YtdmogppkambgaaaDoor
namespace Go.Proofs.YtdmogppkambgaaaDoor
open Go.RowKit

/-- The bools that a slice value holds. -/
def BoolsAt (w : World) (A : Option Addr) (M : Nat) : Prop := ∀ k, k < M → ∃ g o b, A = some ⟨g, o, none⟩ ∧ w.cell? ⟨g, o + k, none⟩ = some (.bool b)

theorem ip_beside {W : World} {n g : Nat} {p : Ip} {v : Value} (h : IpAt W n p v) (hne : n ≠ g) (cs : Array Value) : IpAt (W.setRow g cs) n p v := (setRow_other W g cs hne).trans h
/-- The law's two packets in their array. -/
def TwoAt (w : World) (G : Nat) (p q : Ip) (s10 : Value) (wx : World) : Prop :=
  ∃ (H gp gq cp cq : Nat) (t : TypeId), s10 = .pointer (some ⟨H, 0, none⟩) ∧ G ≤ H ∧ wx.heap[H]? = some (.cells #[.int .u8 p.tos, .int .u16 p.id, .bool p.df, .bool p.mf, .int .i64 p.off, .int .u8 p.ttl, .int .u8 p.proto, .int .u32 p.src, .int .u32 p.dst, .slice (some ⟨gp, 0, none⟩) p.few.b.length cp, .int .u8 q.tos, .int .u16 q.id, .bool q.df, .bool q.mf, .int .i64 q.off, .int .u8 q.ttl, .int .u8 q.proto, .int .u32 q.src, .int .u32 q.dst, .slice (some ⟨gq, 0, none⟩) q.few.b.length cq] t (0, 0)) ∧ Rd wx (.slice (some ⟨gp, 0, none⟩) p.few.b.length cp) p.few.b ∧ Rd wx (.slice (some ⟨gq, 0, none⟩) q.few.b.length cq) q.few.b ∧ (p.few.b ≠ [] → gp ≠ H) ∧ (q.few.b ≠ [] → gq ≠ H) ∧ cp ≤ 9223372036854775807 ∧ cq ≤ 9223372036854775807 ∧ Below G w wx
theorem rd_rowc {W : World} {g n c H : Nat} {bs : List UInt8} (h : Rd W (.slice (some ⟨g, 0, none⟩) n c) bs) (hne : bs ≠ [] → g ≠ H) (cs : Array Value) : Rd (W.setRow H cs) (.slice (some ⟨g, 0, none⟩) n c) bs := by
  by_cases hb : bs = []
  · subst hb
    obtain ⟨A, c', e, hc, _⟩ := h
    exact ⟨A, c', e, hc, fun h0 => absurd h0 (by simp)⟩
  · exact rd_row h (hne hb) cs
theorem two_fin {w W : World} {G H gp gq cp cq : Nat} {p q : Ip} {t : TypeId} {old : Array Value} (hH : W.heap[H]? = some (.cells old t (0, 0))) (hG : G ≤ H) (rp : Rd W (.slice (some ⟨gp, 0, none⟩) p.few.b.length cp) p.few.b) (rq : Rd W (.slice (some ⟨gq, 0, none⟩) q.few.b.length cq) q.few.b)
    (np : p.few.b ≠ [] → gp ≠ H) (nq : q.few.b ≠ [] → gq ≠ H) (hcp : cp ≤ 9223372036854775807) (hcq : cq ≤ 9223372036854775807) (hB : Below G w W) : TwoAt w G p q (.pointer (some ⟨H, 0, none⟩)) (W.setRow H #[.int .u8 p.tos, .int .u16 p.id, .bool p.df, .bool p.mf, .int .i64 p.off, .int .u8 p.ttl, .int .u8 p.proto, .int .u32 p.src, .int .u32 p.dst, .slice (some ⟨gp, 0, none⟩) p.few.b.length cp, .int .u8 q.tos, .int .u16 q.id, .bool q.df, .bool q.mf, .int .i64 q.off, .int .u8 q.ttl, .int .u8 q.proto, .int .u32 q.src, .int .u32 q.dst, .slice (some ⟨gq, 0, none⟩) q.few.b.length cq]) :=
  ⟨H, gp, gq, cp, cq, t, rfl, hG, setRow_heap _ _ _ _ _ _ hH, rd_rowc rp np _, rd_rowc rq nq _, np, nq, hcp, hcq, below_setRow hB hG _⟩
/-- The parts of a packet, in rows that begin behind n. -/
structure Pts (n : Nat) (W : World) (v : Value) (l : List Pv) : Prop where
  row : W.ownsRow n 42 10 v l.length (l.flatMap Pv.row)
  own : ∀ x ∈ l, W.ownsRow n 5 1 x.sl x.p.b.length (x.p.b.map B8)
theorem Pts.keep {n : Nat} {W W' : World} {v : Value} {l : List Pv} (h : Pts n W v l) (hk : ∀ k, n ≤ k → k < W.heap.size → W'.heap[k]? = W.heap[k]?) : Pts n W' v l :=
  ⟨owns_at h.row (fun g hg => hk g (h.row.lt g hg).1 (own_lt h.row hg)), fun x hx => owns_at (h.own x hx) (fun g hg => hk g ((h.own x hx).lt g hg).1 (own_lt (h.own x hx) hg))⟩
theorem Pts.below {n : Nat} {W W' : World} {v : Value} {l : List Pv} (h : Pts n W v l) (hb : Below W.heap.size W W') : Pts n W' v l := h.keep (fun k _ hk => hb.block k hk)
theorem Pts.set {n : Nat} {W : World} {v : Value} {l : List Pv} (h : Pts n W v l) {H : Nat} (hH : H < n) (i : Nat) (u : Value) : Pts n (W.setCell ⟨H, i, none⟩ u) v l := h.keep (fun k hn _ => Below.heap_setCell _ _ _ _ (show k ≠ H by omega))
/-- The law's two packets, and their parts, in their arrays. -/
structure TwoSt (G H H2 gp gq cp cq : Nat) (t t2 : TypeId) (P Q : Ip) (v0 v1 : Value) (w W : World) : Prop where
  own : W.heap[H]? = some (.cells #[.int .u8 P.tos, .int .u16 P.id, .bool P.df, .bool P.mf, .int .i64 P.off, .int .u8 P.ttl, .int .u8 P.proto, .int .u32 P.src, .int .u32 P.dst, .slice (some ⟨gp, 0, none⟩) P.b.length cp, .int .u8 Q.tos, .int .u16 Q.id, .bool Q.df, .bool Q.mf, .int .i64 Q.off, .int .u8 Q.ttl, .int .u8 Q.proto, .int .u32 Q.src, .int .u32 Q.dst, .slice (some ⟨gq, 0, none⟩) Q.b.length cq] t (0, 0))
  rp : Rd W (.slice (some ⟨gp, 0, none⟩) P.b.length cp) P.b
  rq : Rd W (.slice (some ⟨gq, 0, none⟩) Q.b.length cq) Q.b
  np : P.b ≠ [] → gp ≠ H ∧ gp ≠ H2
  nq : Q.b ≠ [] → gq ≠ H ∧ gq ≠ H2
  parts : W.heap[H2]? = some (.cells #[v0, v1] t2 (0, 0))
  base : Below G w W
theorem rd_setc {W : World} {g n c H : Nat} {bs : List UInt8} (h : Rd W (.slice (some ⟨g, 0, none⟩) n c) bs) (hne : bs ≠ [] → g ≠ H) (i : Nat) (v : Value) : Rd (W.setCell ⟨H, i, none⟩ v) (.slice (some ⟨g, 0, none⟩) n c) bs := by
  by_cases hb : bs = []
  · subst hb
    obtain ⟨A, c', e, hc, _⟩ := h
    exact ⟨A, c', e, hc, fun h0 => absurd h0 (by simp)⟩
  · exact rd_set h (hne hb) i v
section
variable {G H H2 gp gq cp cq : Nat} {t t2 : TypeId} {P Q : Ip} {v0 v1 : Value} {w W W' : World}
theorem TwoSt.below (h : TwoSt G H H2 gp gq cp cq t t2 P Q v0 v1 w W) (hG : w.heap.size = G) (hb : Below W.heap.size W W') : TwoSt G H H2 gp gq cp cq t t2 P Q v0 v1 w W' :=
  ⟨(hb.block H (Array.getElem?_eq_some_iff.1 h.own).1).trans h.own, h.rp.below hb, h.rq.below hb, h.np, h.nq, (hb.block H2 (Array.getElem?_eq_some_iff.1 h.parts).1).trans h.parts, ibelow_on h.base hG hb⟩
def Ip.as (p : Ip) (i : Nat) : Ip := Ip.plain { p with id := i }
theorem TwoSt.turn0 {p : Ip} (h : TwoSt G H H2 gp gq cp cq t t2 p.few Q v0 v1 w W) (hH : H ≠ H2) (hG : G ≤ H) : TwoSt G H H2 gp gq cp cq t t2 (p.as 0) Q v0 v1 w ((((W.setCell ⟨H, 4, none⟩ (.int .i64 0)).setCell ⟨H, 3, none⟩ (.bool false)).setCell ⟨H, 2, none⟩ (.bool false)).setCell ⟨H, 1, none⟩ (.int .u16 0)) :=
  ⟨by
    have h' := h.own
    unfold World.setCell
    simp only [Array.getElem?_modify, if_true, h', Option.map_some]
    rfl, rd_setc (rd_setc (rd_setc (rd_setc h.rp (fun e => (h.np e).1) _ _) (fun e => (h.np e).1) _ _) (fun e => (h.np e).1) _ _) (fun e => (h.np e).1) _ _,
   rd_setc (rd_setc (rd_setc (rd_setc h.rq (fun e => (h.nq e).1) _ _) (fun e => (h.nq e).1) _ _) (fun e => (h.nq e).1) _ _) (fun e => (h.nq e).1) _ _, h.np, h.nq,
   (Below.heap_setCell _ _ _ _ hH.symm).trans ((Below.heap_setCell _ _ _ _ hH.symm).trans ((Below.heap_setCell _ _ _ _ hH.symm).trans ((Below.heap_setCell _ _ _ _ hH.symm).trans h.parts))),
   (((h.base.setCell (p := ⟨H, 4, none⟩) hG _).setCell (p := ⟨H, 3, none⟩) hG _).setCell (p := ⟨H, 2, none⟩) hG _).setCell (p := ⟨H, 1, none⟩) hG _⟩
theorem TwoSt.turn1 {q : Ip} (h : TwoSt G H H2 gp gq cp cq t t2 P q.few v0 v1 w W) (hH : H ≠ H2) (hG : G ≤ H) : TwoSt G H H2 gp gq cp cq t t2 P (q.as 1) v0 v1 w ((((W.setCell ⟨H, 14, none⟩ (.int .i64 0)).setCell ⟨H, 13, none⟩ (.bool false)).setCell ⟨H, 12, none⟩ (.bool false)).setCell ⟨H, 11, none⟩ (.int .u16 1)) :=
  ⟨by
    have h' := h.own
    unfold World.setCell
    simp only [Array.getElem?_modify, if_true, h', Option.map_some]
    rfl, rd_setc (rd_setc (rd_setc (rd_setc h.rp (fun e => (h.np e).1) _ _) (fun e => (h.np e).1) _ _) (fun e => (h.np e).1) _ _) (fun e => (h.np e).1) _ _,
   rd_setc (rd_setc (rd_setc (rd_setc h.rq (fun e => (h.nq e).1) _ _) (fun e => (h.nq e).1) _ _) (fun e => (h.nq e).1) _ _) (fun e => (h.nq e).1) _ _, h.np, h.nq,
   (Below.heap_setCell _ _ _ _ hH.symm).trans ((Below.heap_setCell _ _ _ _ hH.symm).trans ((Below.heap_setCell _ _ _ _ hH.symm).trans ((Below.heap_setCell _ _ _ _ hH.symm).trans h.parts))),
   (((h.base.setCell (p := ⟨H, 14, none⟩) hG _).setCell (p := ⟨H, 13, none⟩) hG _).setCell (p := ⟨H, 12, none⟩) hG _).setCell (p := ⟨H, 11, none⟩) hG _⟩
theorem TwoSt.put0 (h : TwoSt G H H2 gp gq cp cq t t2 P Q v0 v1 w W) (hH : H ≠ H2) (hG : G ≤ H2) (v : Value) : TwoSt G H H2 gp gq cp cq t t2 P Q v v1 w (W.setCell ⟨H2, 0, none⟩ v) :=
  ⟨(Below.heap_setCell _ _ _ _ hH).trans h.own, rd_setc h.rp (fun e => (h.np e).2) _ _, rd_setc h.rq (fun e => (h.nq e).2) _ _, h.np, h.nq, by
    have h' := h.parts
    unfold World.setCell
    simp only [Array.getElem?_modify, if_true, h', Option.map_some]
    rfl, h.base.setCell (p := ⟨H2, 0, none⟩) hG _⟩
theorem TwoSt.put1 (h : TwoSt G H H2 gp gq cp cq t t2 P Q v0 v1 w W) (hH : H ≠ H2) (hG : G ≤ H2) (v : Value) : TwoSt G H H2 gp gq cp cq t t2 P Q v0 v w (W.setCell ⟨H2, 1, none⟩ v) :=
  ⟨(Below.heap_setCell _ _ _ _ hH).trans h.own, rd_setc h.rp (fun e => (h.np e).2) _ _, rd_setc h.rq (fun e => (h.nq e).2) _ _, h.np, h.nq, by
    have h' := h.parts
    unfold World.setCell
    simp only [Array.getElem?_modify, if_true, h', Option.map_some]
    rfl, h.base.setCell (p := ⟨H2, 1, none⟩) hG _⟩
theorem TwoSt.cell (h : TwoSt G H H2 gp gq cp cq t t2 P Q v0 v1 w W) :
    (W.cell? ⟨H, 0, none⟩ = some (.int .u8 P.tos) ∧ W.cell? ⟨H, 1, none⟩ = some (.int .u16 P.id) ∧ W.cell? ⟨H, 2, none⟩ = some (.bool P.df) ∧ W.cell? ⟨H, 3, none⟩ = some (.bool P.mf) ∧ W.cell? ⟨H, 4, none⟩ = some (.int .i64 P.off) ∧ W.cell? ⟨H, 5, none⟩ = some (.int .u8 P.ttl) ∧ W.cell? ⟨H, 6, none⟩ = some (.int .u8 P.proto) ∧ W.cell? ⟨H, 7, none⟩ = some (.int .u32 P.src) ∧ W.cell? ⟨H, 8, none⟩ = some (.int .u32 P.dst) ∧ W.cell? ⟨H, 9, none⟩ = some (.slice (some ⟨gp, 0, none⟩) P.b.length cp)) ∧
    (W.cell? ⟨H, 10, none⟩ = some (.int .u8 Q.tos) ∧ W.cell? ⟨H, 11, none⟩ = some (.int .u16 Q.id) ∧ W.cell? ⟨H, 12, none⟩ = some (.bool Q.df) ∧ W.cell? ⟨H, 13, none⟩ = some (.bool Q.mf) ∧ W.cell? ⟨H, 14, none⟩ = some (.int .i64 Q.off) ∧ W.cell? ⟨H, 15, none⟩ = some (.int .u8 Q.ttl) ∧ W.cell? ⟨H, 16, none⟩ = some (.int .u8 Q.proto) ∧ W.cell? ⟨H, 17, none⟩ = some (.int .u32 Q.src) ∧ W.cell? ⟨H, 18, none⟩ = some (.int .u32 Q.dst) ∧ W.cell? ⟨H, 19, none⟩ = some (.slice (some ⟨gq, 0, none⟩) Q.b.length cq)) := by
  refine ⟨⟨?_, ?_, ?_, ?_, ?_, ?_, ?_, ?_, ?_, ?_⟩, ?_, ?_, ?_, ?_, ?_, ?_, ?_, ?_, ?_, ?_⟩ <;> (rw [cell_of_row W H _ _ _ _ h.own]; rfl)
theorem TwoSt.free (h : TwoSt G H H2 gp gq cp cq t t2 P Q v0 v1 w W) (i : Nat) : W.frozen? ⟨H, i, none⟩ = false := by simp [World.frozen?, h.own]
theorem TwoSt.free2 (h : TwoSt G H H2 gp gq cp cq t t2 P Q v0 v1 w W) (i : Nat) : W.frozen? ⟨H2, i, none⟩ = false := by simp [World.frozen?, h.parts]
theorem TwoSt.cell2 (h : TwoSt G H H2 gp gq cp cq t t2 P Q v0 v1 w W) : W.cell? ⟨H2, 0, none⟩ = some v0 ∧ W.cell? ⟨H2, 1, none⟩ = some v1 := by
  constructor <;> (rw [cell_of_row W H2 _ _ _ _ h.parts]; rfl)
end
theorem Ip.as_in {p : Ip} (h : p.Fit) {i : Nat} (hi : i < 65536) : (p.as i).In := Ip.plain_in (p := { p with id := i }) ⟨h.tos, hi, h.off, h.ttl, h.proto, h.src, h.dst⟩
theorem Ip.as_len (p : Ip) (i : Nat) : (p.as i).b.length ≤ 2000 := Ip.plain_len _
theorem Pts.at {n m : Nat} {W : World} {A : Option Addr} {c k : Nat} {l : List Pv} {x : Pv} (h : Pts n W (.slice A m c) l) (hk : l[k]? = some x) : ∃ g, A = some ⟨g, 0, none⟩ ∧ Pv.At W g (0 + k * 10) x := by
  rcases h.row.2 with ⟨_, h0⟩ | ⟨g, cap, cur, e, _, hg, h1, _, h3, h4⟩
  · have := (List.getElem?_eq_some_iff.1 hk).1
    omega
  · cases e
    have hkl := (List.getElem?_eq_some_iff.1 hk).1
    have hcell : ∀ j u, j < 10 → x.row[j]? = some u → W.cell? ⟨g, 0 + k * 10 + j, none⟩ = some u := fun j u hj hu => by
      rw [cell_of_row W g _ _ _ _ hg, Nat.zero_add, ← Array.getElem?_toList, ← hu, ← pvs_get l k j x hk hj, ← h4, List.getElem?_take_of_lt (by omega)]
    exact ⟨g, rfl, ⟨hcell 0 _ (by omega) rfl, hcell 1 _ (by omega) rfl, hcell 2 _ (by omega) rfl, hcell 3 _ (by omega) rfl, hcell 4 _ (by omega) rfl, hcell 5 _ (by omega) rfl, hcell 6 _ (by omega) rfl, hcell 7 _ (by omega) rfl, hcell 8 _ (by omega) rfl, hcell 9 _ (by omega) rfl⟩⟩
theorem Pts.lenc {n m : Nat} {W : World} {A : Option Addr} {c : Nat} {l : List Pv} (h : Pts n W (.slice A m c) l) : l.length ≤ c ∧ c ≤ 9223372036854775807 := by
  rcases h.row.2 with ⟨e, h0⟩ | ⟨g, cap, cur, e, _, hg, h1, h2, _⟩
  · cases e
    exact ⟨by omega, by omega⟩
  · cases e
    exact ⟨h1, by simp only [maxLen] at h2; omega⟩
theorem Gx.at {R : World → Nat → (Nat → Prop) → Int → List Hp → Prop} {w W : World} {H r g o : Nat} {tm : Int} {S : List Hp} {x : Pv} (h : Gx R w H W r tm S) (hx : Pv.At w g o x) (hn : g ≠ H) : Pv.At W g o x := by
  have hk : ∀ j u, w.cell? ⟨g, j, none⟩ = some u → W.cell? ⟨g, j, none⟩ = some u := fun j u hu => by
    have hb := h.old g (World.block_lt_of_cell? w _ hu) hn
    unfold World.cell? at hu ⊢
    rw [hb]
    exact hu
  exact ⟨hk _ _ hx.c0, hk _ _ hx.c1, hk _ _ hx.c2, hk _ _ hx.c3, hk _ _ hx.c4, hk _ _ hx.c5, hk _ _ hx.c6, hk _ _ hx.c7, hk _ _ hx.c8, hk _ _ hx.c9⟩
theorem rd_not {W : World} {A a0 a1 : Option Addr} {n c n0 k0 n1 k1 g : Nat} {t : TypeId} {bs : List UInt8} (h : Rd W (.slice A n c) bs) (h2 : W.heap[g]? = some (.cells #[.slice a0 n0 k0, .slice a1 n1 k1] t (0, 0))) : bs ≠ [] → ∀ a, A = some a → a.block ≠ g := by
  rintro hb a rfl hblk
  obtain ⟨A', c', e, _, hi⟩ := h
  have h0 : 0 < bs.length := List.length_pos_iff.2 hb
  obtain ⟨g', o, e1, hj⟩ := hi h0
  cases e
  cases e1
  cases hblk
  have h1 := hj 0 (bs[0]'h0) (List.getElem?_eq_getElem h0)
  rw [cell_of_row W _ _ _ _ _ h2] at h1
  rcases o with _ | _ | o <;> simp [B8] at h1
theorem rd_setA {W : World} {A : Option Addr} {n c H : Nat} {bs : List UInt8} (h : Rd W (.slice A n c) bs) (hne : bs ≠ [] → ∀ a, A = some a → a.block ≠ H) (i : Nat) (v : Value) : Rd (W.setCell ⟨H, i, none⟩ v) (.slice A n c) bs := by
  obtain ⟨A', c', e, hc, hi⟩ := h
  refine ⟨A', c', e, hc, fun h0 => ?_⟩
  obtain ⟨g, o, e1, hj⟩ := hi h0
  refine ⟨g, o, e1, fun j u hu => ?_⟩
  cases e
  cases e1
  rw [World.cell?_setCell_other _ _ _ _ (fun e => hne (List.length_pos_iff.1 h0) _ rfl (by injection e with h1 h2 h3; first | exact h1 | exact h1.symm))]
  exact hj j u hu
theorem drewB (w : World) (n : Nat) : Below w.heap.size w (w.drewN n) := ⟨rfl, rfl, rfl, Nat.le_refl _, fun _ _ => rfl⟩
theorem below_drewT (w : World) : Below w.heap.size w w.drew := ⟨rfl, rfl, rfl, Nat.le_refl _, fun _ _ => rfl⟩
theorem two_keys (q p : Ip) : (q.as 1).key4 ≠ (p.as 0).key4 := fun e => absurd (congrArg (fun k : Ky => k.2.2.2) e) (by show (1 : Nat) ≠ 0; decide)
theorem splitL_one (p : Ip) {mtu : Int} (hm : 68 ≤ mtu) (h : (splitL p mtu).length = 1) : splitL p mtu = [p] := by
  unfold splitL at h ⊢
  split
  · rfl
  · rename_i hf
    rw [if_neg hf] at h
    have hs := szOf_facts hm
    have h2 : 1 < cntOf p.b.length (szOf mtu) := (cntOf_iff (by omega)).2 (by omega)
    simp [cuts] at h
    omega
theorem splitL_pos (p : Ip) {mtu : Int} (hm : 68 ≤ mtu) : 0 < (splitL p mtu).length := by
  unfold splitL
  split
  · simp
  · rename_i hf
    have hs := szOf_facts hm
    have h2 : 0 < cntOf p.b.length (szOf mtu) := (cntOf_iff (by omega)).2 (by omega)
    simp [cuts]
    omega
theorem twoSize : (Tryd.prog.info? 64).map (·.size) = some 20 := by kernel_rfl

set_option maxRecDepth 100000 in
set_option maxHeartbeats 16000000 in
theorem fragTwo_of {R : World → Nat → (Nat → Prop) → Int → List Hp → Prop} (X : FgOk R) (XS : SpOk) (X0 : ∀ W, W.cell? ⟨0, 0, none⟩ = some (.iface 121 (.agg #[.pointer (some ⟨4, 27, none⟩)])) → Calls Tryd.prog 14 #[] W fun e w' => e = .returned (.bool true) ∧ Below W.heap.size W w')
    (p q : Ip) (A B : Option Addr) (c d : Nat) (x1 : Int) (T : Option Addr) (M k : Nat) (w : World) (hg : w.cell? ⟨0, 0, none⟩ = some (.iface 121 (.agg #[.pointer (some ⟨4, 27, none⟩)]))) (hp : p.Fit) (hc : c ≤ 9223372036854775807) (hr : Rd w (.slice A p.b.length c) p.b) (hq : q.Fit) (hd : d ≤ 9223372036854775807) (hs : Rd w (.slice B q.b.length d) q.b) (_ : M ≤ k) (_ : k ≤ 9223372036854775807) (hT : BoolsAt w T M) :
    Calls Tryd.prog 6 #[.agg #[.int .u8 p.tos, .int .u16 p.id, .bool p.df, .bool p.mf, .int .i64 p.off, .int .u8 p.ttl, .int .u8 p.proto, .int .u32 p.src, .int .u32 p.dst, .slice A p.b.length c], .agg #[.int .u8 q.tos, .int .u16 q.id, .bool q.df, .bool q.mf, .int .i64 q.off, .int .u8 q.ttl, .int .u8 q.proto, .int .u32 q.src, .int .u32 q.dst, .slice B q.b.length d], .int .i64 x1, .slice T M k] w fun e w' => e = .returned (.bool true) ∧ Below w.heap.size w w' := by
  obtain ⟨m0, hm0⟩ : ∃ m, bits .and .i64 x1 65535 = m := ⟨_, rfl⟩
  have b0 := and_bound x1 65535 (by omega) (by omega)
  rw [hm0] at b0
  obtain ⟨m1, hm1⟩ : ∃ m, m0.tmod 500 = m := ⟨_, rfl⟩
  have b1 : 0 ≤ m1 ∧ m1 ≤ 499 := by
    rw [Int.tmod_eq_emod_of_nonneg b0.1] at hm1
    omega
  obtain ⟨mtu, hmtu⟩ : ∃ m, 68 + m1 = m := ⟨_, rfl⟩
  have qm : IntKind.i64.wrap (68 + m1) = mtu := by rw [IntKind.wrap_i64]; omega
  have hmt : 68 ≤ mtu ∧ mtu ≤ 567 := by omega
  have HFp := Lib.hid hp
  have HFq := Lib.hid hq
  have HT := Lib.hid hT
  have XSS := Lib.hid XS
  have XX := Lib.hid X
  have hA : Below w.heap.size w (w.alloc (p.obj (.slice A p.b.length c))) := (Below.refl _ w).alloc (Nat.le_refl _) _
  have hB0 : Below w.heap.size w ((w.alloc (p.obj (.slice A p.b.length c))).alloc (q.obj (.slice B q.b.length d))) := hA.alloc hA.size _
  have X0 := Lib.hid (X0 _ ((hB0.cell (World.block_lt_of_cell? w _ hg)).trans hg))
  have M0 : Hid (IpAt ((w.alloc (p.obj (.slice A p.b.length c))).alloc (q.obj (.slice B q.b.length d))) w.heap.size p (.slice A p.b.length c)) := Lib.hid ((IpAt.new w p _).below ((Below.refl _ _).alloc (Nat.le_refl _) _))
  have N0 : Hid (IpAt ((w.alloc (p.obj (.slice A p.b.length c))).alloc (q.obj (.slice B q.b.length d))) (w.heap.size + 1) q (.slice B q.b.length d)) := Lib.hid (by
    have h := IpAt.new (w.alloc (p.obj (.slice A p.b.length c))) q (.slice B q.b.length d)
    rw [World.size_alloc] at h
    exact h)
  have B0 := Lib.hid hB0
  have R0 := Lib.hid (hr.below hB0)
  have S0 := Lib.hid (hs.below hB0)
  unfold Ip.obj at X0 M0 N0 B0 R0 S0
  have hzz : (w.alloc (.cells #[.int .u8 p.tos, .int .u16 p.id, .bool p.df, .bool p.mf, .int .i64 p.off, .int .u8 p.ttl, .int .u8 p.proto, .int .u32 p.src, .int .u32 p.dst, .slice A p.b.length c] 42)).heap.size = w.heap.size + 1 := World.size_alloc ..
  clear XS X hp hq hg hA hB0 hr hs hT hmtu
  go_enter Tryd.func6, Tryd.ntmps6
  go_upto_region 1 with fail
  generalize (w.alloc (.cells #[.int .u8 p.tos, .int .u16 p.id, .bool p.df, .bool p.mf, .int .i64 p.off, .int .u8 p.ttl, .int .u8 p.proto, .int .u32 p.src, .int .u32 p.dst, .slice A p.b.length c] 42)).alloc (.cells #[.int .u8 q.tos, .int .u16 q.id, .bool q.df, .bool q.mf, .int .i64 q.off, .int .u8 q.ttl, .int .u8 q.proto, .int .u32 q.src, .int .u32 q.dst, .slice B q.b.length d] 42) = w0 at X0 M0 N0 B0 R0 S0 ⊢
  obtain ⟨G, hG⟩ : ∃ G, w.heap.size = G := ⟨_, rfl⟩
  have HGe := Lib.hid hG
  rw [hG] at M0 N0 B0 ⊢
  clear hG hzz
  go_upto_region 2 with (go_at_call 14; (with_reducible refine X0.out.mono ?_); rintro e w1 ⟨rfl, hB⟩; (have B1 := Lib.hid hB); clear hB)
  have hs0 := B0.out.size
  have M1 := Lib.hid (M0.out.below B1.out)
  have N1 := Lib.hid (N0.out.below B1.out)
  have R1 := Lib.hid (R0.out.below B1.out)
  have S1 := Lib.hid (S0.out.below B1.out)
  have Bw1 : Hid (Below G w w1) := Lib.hid (by
    have h := below_to (HGe.out ▸ B0.out : Below w.heap.size w w0) B1.out (by rw [HGe.out]; have := M0.out.lt; omega)
    rwa [HGe.out] at h)
  clear X0 M0 N0 B0 R0 S0 B1 hs0
  go_upto_region 3 with fail
  have XF := Lib.hid (fun W (h : Below w1.heap.size w1 W) => few2_any p A c W (R1.out.below h) hc)
  have XG := Lib.hid (fun W (h : Below w1.heap.size w1 W) => few2_any q B d W (S1.out.below h) hd)
  unfold FewTold Ip.val Ip.row at XF XG
  go_cut [10] (fun s10 wx => TwoAt w G p q s10 wx)
  case first =>
    have KS : Hid (∀ W', Below w1.heap.size w1 W' → W'.cell? ⟨G, 0, none⟩ = some (.int .u8 p.tos) ∧ W'.cell? ⟨G, 1, none⟩ = some (.int .u16 p.id) ∧ W'.cell? ⟨G, 2, none⟩ = some (.bool p.df) ∧ W'.cell? ⟨G, 3, none⟩ = some (.bool p.mf) ∧ W'.cell? ⟨G, 4, none⟩ = some (.int .i64 p.off) ∧ W'.cell? ⟨G, 5, none⟩ = some (.int .u8 p.ttl) ∧ W'.cell? ⟨G, 6, none⟩ = some (.int .u8 p.proto) ∧ W'.cell? ⟨G, 7, none⟩ = some (.int .u32 p.src) ∧ W'.cell? ⟨G, 8, none⟩ = some (.int .u32 p.dst) ∧ W'.cell? ⟨G, 9, none⟩ = some (.slice A p.b.length c) ∧ W'.cell? ⟨(G + 1), 0, none⟩ = some (.int .u8 q.tos) ∧ W'.cell? ⟨(G + 1), 1, none⟩ = some (.int .u16 q.id) ∧ W'.cell? ⟨(G + 1), 2, none⟩ = some (.bool q.df) ∧ W'.cell? ⟨(G + 1), 3, none⟩ = some (.bool q.mf) ∧ W'.cell? ⟨(G + 1), 4, none⟩ = some (.int .i64 q.off) ∧ W'.cell? ⟨(G + 1), 5, none⟩ = some (.int .u8 q.ttl) ∧ W'.cell? ⟨(G + 1), 6, none⟩ = some (.int .u8 q.proto) ∧ W'.cell? ⟨(G + 1), 7, none⟩ = some (.int .u32 q.src) ∧ W'.cell? ⟨(G + 1), 8, none⟩ = some (.int .u32 q.dst) ∧ W'.cell? ⟨(G + 1), 9, none⟩ = some (.slice B q.b.length d)) := Lib.hid (fun W' h => by
      obtain ⟨c0, c1, c2, c3, c4, c5, c6, c7, c8, c9⟩ := (M1.out.below h).cells
      exact ⟨c0, c1, c2, c3, c4, c5, c6, c7, c8, c9, (N1.out.below h).cells⟩)
    have D1 := Lib.hid (below_drewF w1)
    have KX : Hid (∀ W' H cs, Below w1.heap.size w1 W' → G + 1 < H → ((fun W' => W'.cell? ⟨G, 0, none⟩ = some (.int .u8 p.tos) ∧ W'.cell? ⟨G, 1, none⟩ = some (.int .u16 p.id) ∧ W'.cell? ⟨G, 2, none⟩ = some (.bool p.df) ∧ W'.cell? ⟨G, 3, none⟩ = some (.bool p.mf) ∧ W'.cell? ⟨G, 4, none⟩ = some (.int .i64 p.off) ∧ W'.cell? ⟨G, 5, none⟩ = some (.int .u8 p.ttl) ∧ W'.cell? ⟨G, 6, none⟩ = some (.int .u8 p.proto) ∧ W'.cell? ⟨G, 7, none⟩ = some (.int .u32 p.src) ∧ W'.cell? ⟨G, 8, none⟩ = some (.int .u32 p.dst) ∧ W'.cell? ⟨G, 9, none⟩ = some (.slice A p.b.length c) ∧ W'.cell? ⟨(G + 1), 0, none⟩ = some (.int .u8 q.tos) ∧ W'.cell? ⟨(G + 1), 1, none⟩ = some (.int .u16 q.id) ∧ W'.cell? ⟨(G + 1), 2, none⟩ = some (.bool q.df) ∧ W'.cell? ⟨(G + 1), 3, none⟩ = some (.bool q.mf) ∧ W'.cell? ⟨(G + 1), 4, none⟩ = some (.int .i64 q.off) ∧ W'.cell? ⟨(G + 1), 5, none⟩ = some (.int .u8 q.ttl) ∧ W'.cell? ⟨(G + 1), 6, none⟩ = some (.int .u8 q.proto) ∧ W'.cell? ⟨(G + 1), 7, none⟩ = some (.int .u32 q.src) ∧ W'.cell? ⟨(G + 1), 8, none⟩ = some (.int .u32 q.dst) ∧ W'.cell? ⟨(G + 1), 9, none⟩ = some (.slice B q.b.length d)) (W'.setRow H cs))) := Lib.hid (fun W' H cs h hH => by
      obtain ⟨c0, c1, c2, c3, c4, c5, c6, c7, c8, c9⟩ := (ip_beside (M1.out.below h) (g := H) (by omega) cs).cells
      exact ⟨c0, c1, c2, c3, c4, c5, c6, c7, c8, c9, (ip_beside (N1.out.below h) (g := H) (by omega) cs).cells⟩)
    refine wp_region_held_drew (S := fun W' => W'.cell? ⟨G, 0, none⟩ = some (.int .u8 p.tos) ∧ W'.cell? ⟨G, 1, none⟩ = some (.int .u16 p.id) ∧ W'.cell? ⟨G, 2, none⟩ = some (.bool p.df) ∧ W'.cell? ⟨G, 3, none⟩ = some (.bool p.mf) ∧ W'.cell? ⟨G, 4, none⟩ = some (.int .i64 p.off) ∧ W'.cell? ⟨G, 5, none⟩ = some (.int .u8 p.ttl) ∧ W'.cell? ⟨G, 6, none⟩ = some (.int .u8 p.proto) ∧ W'.cell? ⟨G, 7, none⟩ = some (.int .u32 p.src) ∧ W'.cell? ⟨G, 8, none⟩ = some (.int .u32 p.dst) ∧ W'.cell? ⟨G, 9, none⟩ = some (.slice A p.b.length c) ∧ W'.cell? ⟨(G + 1), 0, none⟩ = some (.int .u8 q.tos) ∧ W'.cell? ⟨(G + 1), 1, none⟩ = some (.int .u16 q.id) ∧ W'.cell? ⟨(G + 1), 2, none⟩ = some (.bool q.df) ∧ W'.cell? ⟨(G + 1), 3, none⟩ = some (.bool q.mf) ∧ W'.cell? ⟨(G + 1), 4, none⟩ = some (.int .i64 q.off) ∧ W'.cell? ⟨(G + 1), 5, none⟩ = some (.int .u8 q.ttl) ∧ W'.cell? ⟨(G + 1), 6, none⟩ = some (.int .u8 q.proto) ∧ W'.cell? ⟨(G + 1), 7, none⟩ = some (.int .u32 q.src) ∧ W'.cell? ⟨(G + 1), 8, none⟩ = some (.int .u32 q.dst) ∧ W'.cell? ⟨(G + 1), 9, none⟩ = some (.slice B q.b.length d)) (by kernel_rfl) (KS.out _ (below_drewF w1)) (fun hHeld => ?_)
    generalize w1.drew = D at hHeld D1 ⊢
    refine wpAnyH_take (i := 0) (oi := ⟨some 26, _, _, _, _, _⟩) (v := (.agg #[.int .u8 p.tos, .int .u16 p.id, .bool p.df, .bool p.mf, .int .i64 p.off, .int .u8 p.ttl, .int .u8 p.proto, .int .u32 p.src, .int .u32 p.dst, .slice A p.b.length c])) rfl (by kernel_rfl) (by kernel_rfl) (by kernel_rfl) (fun _ _ _ h => h) (Or.inl ⟨by rfl, ?_⟩) (by assumption) ?_
    · intro W hSw
      try dsimp only at hSw
      go_simp
    try simp only [Act.put, List.setIfInBounds_toArray, List.set_cons_zero, List.set_cons_succ]
    refine wpAnyH_take (i := 2) (oi := ⟨some 28, _, _, _, _, _⟩) (v := (.agg #[.int .u8 q.tos, .int .u16 q.id, .bool q.df, .bool q.mf, .int .i64 q.off, .int .u8 q.ttl, .int .u8 q.proto, .int .u32 q.src, .int .u32 q.dst, .slice B q.b.length d])) rfl (by kernel_rfl) (by kernel_rfl) (by kernel_rfl) (fun _ _ _ h => h) (Or.inl ⟨by rfl, ?_⟩) (by assumption) ?_
    · intro W hSw
      try dsimp only at hSw
      go_simp
    try simp only [Act.put, List.setIfInBounds_toArray, List.set_cons_zero, List.set_cons_succ]
    refine wpAnyH_ready (rs := [1, 5]) (by kernel_rfl) (by simp) ?_
    refine AllReadyH.cons rfl (fun K hK => ?_) ?_
    · have hk := Lib.hid hK
      clear hK
      go_simp
      go_at_call 15
      with_reducible refine (XF.out _ (D1.out)).mono ?_
      rintro e w5 ⟨gp, cp, rfl, hr, hg, hB, hc⟩
      have I5 := Lib.hid (And.intro hr (And.intro hg (And.intro hB hc)))
      clear hr hg hB hc
      dsimp only
      have B5 := Lib.hid (below_to (D1.out) I5.out.2.2.1 (D1.out).size)
      refine hk.out.out _ _ ?_ (fun hHeld => ?_)
      · exact KS.out _ B5.out
      clear hk K
      try simp only [Act.put, List.setIfInBounds_toArray, List.set_cons_zero, List.set_cons_succ]
      refine wpAnyH_ready (rs := [3, 5]) (by kernel_rfl) (by simp) ?_
      refine AllReadyH.cons rfl (fun K hK => ?_) ?_
      · have hk := Lib.hid hK
        clear hK
        go_simp
        go_at_call 15
        with_reducible refine (XG.out _ B5.out).mono ?_
        rintro e w6 ⟨gq, cq, rfl, hr, hg, hB, hc⟩
        have I6 := Lib.hid (And.intro hr (And.intro hg (And.intro hB hc)))
        clear hr hg hB hc
        dsimp only
        have B6 := Lib.hid (below_to B5.out I6.out.2.2.1 B5.out.size)
        refine hk.out.out _ _ ?_ (fun hHeld => ?_)
        · exact KS.out _ B6.out
        clear hk K
        try simp only [Act.put, List.setIfInBounds_toArray, List.set_cons_zero, List.set_cons_succ]
        refine wpAnyH_take (i := 4) (oi := ⟨some 30, _, _, _, _, _⟩) (v := (.agg #[.int .u8 p.tos, .int .u16 p.id, .bool p.df, .bool p.mf, .int .i64 p.off, .int .u8 p.ttl, .int .u8 p.proto, .int .u32 p.src, .int .u32 p.dst, .slice (some ⟨gp, 0, none⟩) p.few.b.length cp, .int .u8 q.tos, .int .u16 q.id, .bool q.df, .bool q.mf, .int .i64 q.off, .int .u8 q.ttl, .int .u8 q.proto, .int .u32 q.src, .int .u32 q.dst, .slice (some ⟨gq, 0, none⟩) q.few.b.length cq])) rfl (by kernel_rfl) (by kernel_rfl) (by kernel_rfl) (fun _ _ _ h => h) (Or.inl ⟨by rfl, ?_⟩) (by assumption) ?_
        · intro W hSw
          try dsimp only at hSw
          go_simp
        try simp only [Act.put, List.setIfInBounds_toArray, List.set_cons_zero, List.set_cons_succ]
        refine wpAnyH_ready (rs := [5]) (by kernel_rfl) (by simp) ?_
        refine AllReadyH.cons rfl (fun K hK => ?_) ?_
        · have hk := Lib.hid hK
          clear hK
          go_simp
          refine hk.out.out _ _ ?_ (fun hHeld => ?_)
          · exact KS.out _ (below_al B6.out _)
          clear hk K
          try simp only [Act.put, List.setIfInBounds_toArray, List.set_cons_zero, List.set_cons_succ]
          refine wpAnyH_ready (rs := [6]) (by kernel_rfl) (by simp) ?_
          refine AllReadyH.cons rfl (fun K hK => ?_) AllReadyH.nil
          have hk := Lib.hid hK
          clear hK
          refine step_store_row rfl 64 (.tmp 10) (.tmp 30) rfl (w6.heap.size) #[.int .u8 p.tos, .int .u16 p.id, .bool p.df, .bool p.mf, .int .i64 p.off, .int .u8 p.ttl, .int .u8 p.proto, .int .u32 p.src, .int .u32 p.dst, .slice (some ⟨gp, 0, none⟩) p.few.b.length cp, .int .u8 q.tos, .int .u16 q.id, .bool q.df, .bool q.mf, .int .i64 q.off, .int .u8 q.ttl, .int .u8 q.proto, .int .u32 q.src, .int .u32 q.dst, .slice (some ⟨gq, 0, none⟩) q.few.b.length cq] rfl rfl _ _ (heap_alloc_new w6 _) twoSize rfl (by simp [Value.oneCell']) rfl ?_
          refine hk.out.out _ _ (KX.out _ _ _ (below_al B6.out _) (by have a1 := N1.out.lt; have a2 := D1.out.size; have a3 := I5.out.2.2.1.size; have a4 := I6.out.2.2.1.size; (try rw [World.size_alloc] at a3); (try rw [World.size_alloc] at a4); omega)) (fun _ => ?_)
          clear hk K
          refine wpAnyH_done (by kernel_rfl) ?_ _
          try simp only [Act.put]
          go_wp2_with fail
          go_meet
          exact two_fin (heap_alloc_new w6 _) (by have a1 := N1.out.lt; have a2 := D1.out.size; have a3 := I5.out.2.2.1.size; have a4 := I6.out.2.2.1.size; (try rw [World.size_alloc] at a3); (try rw [World.size_alloc] at a4); omega) (I5.out.1.below (below_al I6.out.2.2.1 _)) (I6.out.1.below (below_al (Below.refl _ _) _)) (fun hb => by have h : gp < w5.heap.size := rd_old I5.out.1 hb _ rfl; have a4 := I6.out.2.2.1.size; omega) (fun hb => by have h : gq < w6.heap.size := rd_old I6.out.1 hb _ rfl; omega) I5.out.2.2.2 I6.out.2.2.2 (ibelow_on Bw1.out HGe.out (below_al B6.out _))
        exact AllReadyH.nil
      refine AllReadyH.cons rfl (fun K hK => ?_) ?_
      · have hk := Lib.hid hK
        clear hK
        go_simp
        refine hk.out.out _ _ ?_ (fun hHeld => ?_)
        · exact KS.out _ (below_al B5.out _)
        clear hk K
        try simp only [Act.put, List.setIfInBounds_toArray, List.set_cons_zero, List.set_cons_succ]
        refine wpAnyH_ready (rs := [3]) (by kernel_rfl) (by simp) ?_
        refine AllReadyH.cons rfl (fun K hK => ?_) ?_
        · have hk := Lib.hid hK
          clear hK
          go_simp
          go_at_call 15
          with_reducible refine (XG.out _ (below_al B5.out _)).mono ?_
          rintro e w6 ⟨gq, cq, rfl, hr, hg, hB, hc⟩
          have I6 := Lib.hid (And.intro hr (And.intro hg (And.intro hB hc)))
          clear hr hg hB hc
          dsimp only
          have B6 := Lib.hid (below_to (below_al B5.out _) I6.out.2.2.1 (below_al B5.out _).size)
          refine hk.out.out _ _ ?_ (fun hHeld => ?_)
          · exact KS.out _ B6.out
          clear hk K
          try simp only [Act.put, List.setIfInBounds_toArray, List.set_cons_zero, List.set_cons_succ]
          refine wpAnyH_take (i := 4) (oi := ⟨some 30, _, _, _, _, _⟩) (v := (.agg #[.int .u8 p.tos, .int .u16 p.id, .bool p.df, .bool p.mf, .int .i64 p.off, .int .u8 p.ttl, .int .u8 p.proto, .int .u32 p.src, .int .u32 p.dst, .slice (some ⟨gp, 0, none⟩) p.few.b.length cp, .int .u8 q.tos, .int .u16 q.id, .bool q.df, .bool q.mf, .int .i64 q.off, .int .u8 q.ttl, .int .u8 q.proto, .int .u32 q.src, .int .u32 q.dst, .slice (some ⟨gq, 0, none⟩) q.few.b.length cq])) rfl (by kernel_rfl) (by kernel_rfl) (by kernel_rfl) (fun _ _ _ h => h) (Or.inl ⟨by rfl, ?_⟩) (by assumption) ?_
          · intro W hSw
            try dsimp only at hSw
            go_simp
          try simp only [Act.put, List.setIfInBounds_toArray, List.set_cons_zero, List.set_cons_succ]
          refine wpAnyH_ready (rs := [6]) (by kernel_rfl) (by simp) ?_
          refine AllReadyH.cons rfl (fun K hK => ?_) AllReadyH.nil
          have hk := Lib.hid hK
          clear hK
          refine step_store_row rfl 64 (.tmp 10) (.tmp 30) rfl (w5.heap.size) #[.int .u8 p.tos, .int .u16 p.id, .bool p.df, .bool p.mf, .int .i64 p.off, .int .u8 p.ttl, .int .u8 p.proto, .int .u32 p.src, .int .u32 p.dst, .slice (some ⟨gp, 0, none⟩) p.few.b.length cp, .int .u8 q.tos, .int .u16 q.id, .bool q.df, .bool q.mf, .int .i64 q.off, .int .u8 q.ttl, .int .u8 q.proto, .int .u32 q.src, .int .u32 q.dst, .slice (some ⟨gq, 0, none⟩) q.few.b.length cq] rfl rfl _ _ ((I6.out.2.2.1.block w5.heap.size (by rw [World.size_alloc]; omega)).trans (heap_alloc_new w5 _)) twoSize rfl (by simp [Value.oneCell']) rfl ?_
          refine hk.out.out _ _ (KX.out _ _ _ (B6.out) (by have a1 := N1.out.lt; have a2 := D1.out.size; have a3 := I5.out.2.2.1.size; have a4 := I6.out.2.2.1.size; (try rw [World.size_alloc] at a3); (try rw [World.size_alloc] at a4); omega)) (fun _ => ?_)
          clear hk K
          refine wpAnyH_done (by kernel_rfl) ?_ _
          try simp only [Act.put]
          go_wp2_with fail
          go_meet
          exact two_fin ((I6.out.2.2.1.block w5.heap.size (by rw [World.size_alloc]; omega)).trans (heap_alloc_new w5 _)) (by have a1 := N1.out.lt; have a2 := D1.out.size; have a3 := I5.out.2.2.1.size; have a4 := I6.out.2.2.1.size; (try rw [World.size_alloc] at a3); (try rw [World.size_alloc] at a4); omega) ((I5.out.1.below (below_al (Below.refl _ _) _)).below I6.out.2.2.1) (I6.out.1) (fun hb => by have h : gp < w5.heap.size := rd_old I5.out.1 hb _ rfl; omega) (fun _ => by have h := I6.out.2.1; rw [World.size_alloc] at h; omega) I5.out.2.2.2 I6.out.2.2.2 (ibelow_on Bw1.out HGe.out B6.out)
        exact AllReadyH.nil
      exact AllReadyH.nil
    refine AllReadyH.cons rfl (fun K hK => ?_) ?_
    · have hk := Lib.hid hK
      clear hK
      go_simp
      refine hk.out.out _ _ ?_ (fun hHeld => ?_)
      · exact KS.out _ (below_al D1.out _)
      clear hk K
      try simp only [Act.put, List.setIfInBounds_toArray, List.set_cons_zero, List.set_cons_succ]
      refine wpAnyH_ready (rs := [1]) (by kernel_rfl) (by simp) ?_
      refine AllReadyH.cons rfl (fun K hK => ?_) ?_
      · have hk := Lib.hid hK
        clear hK
        go_simp
        go_at_call 15
        with_reducible refine (XF.out _ (below_al D1.out _)).mono ?_
        rintro e w5 ⟨gp, cp, rfl, hr, hg, hB, hc⟩
        have I5 := Lib.hid (And.intro hr (And.intro hg (And.intro hB hc)))
        clear hr hg hB hc
        dsimp only
        have B5 := Lib.hid (below_to (below_al D1.out _) I5.out.2.2.1 (below_al D1.out _).size)
        refine hk.out.out _ _ ?_ (fun hHeld => ?_)
        · exact KS.out _ B5.out
        clear hk K
        try simp only [Act.put, List.setIfInBounds_toArray, List.set_cons_zero, List.set_cons_succ]
        refine wpAnyH_ready (rs := [3]) (by kernel_rfl) (by simp) ?_
        refine AllReadyH.cons rfl (fun K hK => ?_) ?_
        · have hk := Lib.hid hK
          clear hK
          go_simp
          go_at_call 15
          with_reducible refine (XG.out _ B5.out).mono ?_
          rintro e w6 ⟨gq, cq, rfl, hr, hg, hB, hc⟩
          have I6 := Lib.hid (And.intro hr (And.intro hg (And.intro hB hc)))
          clear hr hg hB hc
          dsimp only
          have B6 := Lib.hid (below_to B5.out I6.out.2.2.1 B5.out.size)
          refine hk.out.out _ _ ?_ (fun hHeld => ?_)
          · exact KS.out _ B6.out
          clear hk K
          try simp only [Act.put, List.setIfInBounds_toArray, List.set_cons_zero, List.set_cons_succ]
          refine wpAnyH_take (i := 4) (oi := ⟨some 30, _, _, _, _, _⟩) (v := (.agg #[.int .u8 p.tos, .int .u16 p.id, .bool p.df, .bool p.mf, .int .i64 p.off, .int .u8 p.ttl, .int .u8 p.proto, .int .u32 p.src, .int .u32 p.dst, .slice (some ⟨gp, 0, none⟩) p.few.b.length cp, .int .u8 q.tos, .int .u16 q.id, .bool q.df, .bool q.mf, .int .i64 q.off, .int .u8 q.ttl, .int .u8 q.proto, .int .u32 q.src, .int .u32 q.dst, .slice (some ⟨gq, 0, none⟩) q.few.b.length cq])) rfl (by kernel_rfl) (by kernel_rfl) (by kernel_rfl) (fun _ _ _ h => h) (Or.inl ⟨by rfl, ?_⟩) (by assumption) ?_
          · intro W hSw
            try dsimp only at hSw
            go_simp
          try simp only [Act.put, List.setIfInBounds_toArray, List.set_cons_zero, List.set_cons_succ]
          refine wpAnyH_ready (rs := [6]) (by kernel_rfl) (by simp) ?_
          refine AllReadyH.cons rfl (fun K hK => ?_) AllReadyH.nil
          have hk := Lib.hid hK
          clear hK
          refine step_store_row rfl 64 (.tmp 10) (.tmp 30) rfl (D.heap.size) #[.int .u8 p.tos, .int .u16 p.id, .bool p.df, .bool p.mf, .int .i64 p.off, .int .u8 p.ttl, .int .u8 p.proto, .int .u32 p.src, .int .u32 p.dst, .slice (some ⟨gp, 0, none⟩) p.few.b.length cp, .int .u8 q.tos, .int .u16 q.id, .bool q.df, .bool q.mf, .int .i64 q.off, .int .u8 q.ttl, .int .u8 q.proto, .int .u32 q.src, .int .u32 q.dst, .slice (some ⟨gq, 0, none⟩) q.few.b.length cq] rfl rfl _ _ ((I6.out.2.2.1.block D.heap.size (Nat.lt_of_lt_of_le (by rw [World.size_alloc]; omega) I5.out.2.2.1.size)).trans ((I5.out.2.2.1.block D.heap.size (by rw [World.size_alloc]; omega)).trans (heap_alloc_new D _))) twoSize rfl (by simp [Value.oneCell']) rfl ?_
          refine hk.out.out _ _ (KX.out _ _ _ (B6.out) (by have a1 := N1.out.lt; have a2 := D1.out.size; have a3 := I5.out.2.2.1.size; have a4 := I6.out.2.2.1.size; (try rw [World.size_alloc] at a3); (try rw [World.size_alloc] at a4); omega)) (fun _ => ?_)
          clear hk K
          refine wpAnyH_done (by kernel_rfl) ?_ _
          try simp only [Act.put]
          go_wp2_with fail
          go_meet
          exact two_fin ((I6.out.2.2.1.block D.heap.size (Nat.lt_of_lt_of_le (by rw [World.size_alloc]; omega) I5.out.2.2.1.size)).trans ((I5.out.2.2.1.block D.heap.size (by rw [World.size_alloc]; omega)).trans (heap_alloc_new D _))) (by have a1 := N1.out.lt; have a2 := D1.out.size; have a3 := I5.out.2.2.1.size; have a4 := I6.out.2.2.1.size; (try rw [World.size_alloc] at a3); (try rw [World.size_alloc] at a4); omega) (I5.out.1.below I6.out.2.2.1) (I6.out.1) (fun _ => by have h := I5.out.2.1; rw [World.size_alloc] at h; omega) (fun _ => by have h := I6.out.2.1; have a3 := I5.out.2.2.1.size; rw [World.size_alloc] at a3; omega) I5.out.2.2.2 I6.out.2.2.2 (ibelow_on Bw1.out HGe.out B6.out)
        exact AllReadyH.nil
      exact AllReadyH.nil
    exact AllReadyH.nil
  case rest =>
    obtain ⟨H, gp, gq, cp, cq, t, rfl, hGH, hh, rp, rq, np, nq, hcp, hcq, hB⟩ := hcut
    have HH := Lib.hid hh
    have HRP := Lib.hid rp
    have HRQ := Lib.hid rq
    have HNP := Lib.hid np
    have HNQ := Lib.hid nq
    have HG := Lib.hid hGH
    have HB := Lib.hid hB
    clear hGH hh rp rq np nq hB
    clear M1 N1 R1 S1 Bw1 XF XG
    go_upto_region 5 with fail
    have HS0 : Hid (TwoSt G H wc.heap.size gp gq cp cq t 65 p.few q.few (.slice none 0 0) (.slice none 0 0) w (wc.alloc (.cells #[.slice none 0 0, .slice none 0 0] 65))) := Lib.hid (by
      have hb := below_al (Below.refl wc.heap.size wc) (.cells #[.slice none 0 0, .slice none 0 0] 65)
      refine ⟨(hb.block H (Array.getElem?_eq_some_iff.1 HH.out).1).trans HH.out, HRP.out.below hb, HRQ.out.below hb, fun e => ⟨HNP.out e, fun e2 => ?_⟩, fun e => ⟨HNQ.out e, fun e2 => ?_⟩, heap_alloc_new wc _, ibelow_on HB.out HGe.out hb⟩
      · have h : gp < wc.heap.size := rd_old HRP.out e _ rfl
        omega
      · have h : gq < wc.heap.size := rd_old HRQ.out e _ rfl
        omega)
    have HNH : Hid (H < wc.heap.size) := Lib.hid (Array.getElem?_eq_some_iff.1 HH.out).1
    generalize wc.alloc (.cells #[.slice none 0 0, .slice none 0 0] 65) = w4 at HS0 ⊢
    generalize wc.heap.size = H2 at HS0 HNH ⊢
    generalize 65 = t2 at HS0
    have HN2 : Hid (H ≠ H2) := Lib.hid (by have := HNH.out; omega)
    have HG2 : Hid (G ≤ H2) := Lib.hid (by have := HNH.out; have := HG.out; omega)
    clear HH HRP HRQ HNP HNQ HB
    go_wp2_with fail
    go_loopw [12, 13, 14] (fun s12 _ _ wr => (s12 = .int .i64 0 ∧ TwoSt G H H2 gp gq cp cq t t2 p.few q.few (.slice none 0 0) (.slice none 0 0) w wr) ∨ (∃ (l0 : List Pv) (A0 : Option Addr) (c0 n0 : Nat), s12 = .int .i64 1 ∧ TwoSt G H H2 gp gq cp cq t t2 (p.as 0) q.few (.slice A0 l0.length c0) (.slice none 0 0) w wr ∧ H2 < n0 ∧ Pts n0 wr (.slice A0 l0.length c0) l0 ∧ l0.map Pv.p = splitL (p.as 0) mtu) ∨ (∃ (l0 : List Pv) (A0 : Option Addr) (c0 n0 : Nat) (l1 : List Pv) (A1 : Option Addr) (c1 n1 : Nat), s12 = .int .i64 2 ∧ TwoSt G H H2 gp gq cp cq t t2 (p.as 0) (q.as 1) (.slice A0 l0.length c0) (.slice A1 l1.length c1) w wr ∧ (H2 < n0 ∧ Pts n0 wr (.slice A0 l0.length c0) l0 ∧ l0.map Pv.p = splitL (p.as 0) mtu) ∧ H2 < n1 ∧ Pts n1 wr (.slice A1 l1.length c1) l1 ∧ l1.map Pv.p = splitL (q.as 1) mtu)) (fun s12 _ _ _ => 2 - (intOf s12).toNat)
    case atStart => exact .inl ⟨rfl, HS0.out⟩
    case round =>
      rcases hrel with ⟨rfl, hS⟩ | ⟨l0, A0, c0, n0, rfl, hS, hn0, hP0, hlm0⟩ | ⟨l0, A0, c0, n0, l1, A1, c1, n1, rfl, hS, ⟨hn0, hP0, hlm0⟩, hn1, hP1, hlm1⟩
      · have HS := Lib.hid hS
        clear hS HS0
        obtain ⟨⟨e0, e1, e2, e3, e4, e5, e6, e7, e8, e9⟩, f0, f1, f2, f3, f4, f5, f6, f7, f8, f9⟩ := HS.out.cell
        clear e0 e5 e6 e7 e8 e9 f0 f1 f2 f3 f4 f5 f6 f7 f8 f9
        have z4 : wr.frozen? ⟨H, 4, none⟩ = false := HS.out.free 4
        have z3 : wr.frozen? ⟨H, 3, none⟩ = false := HS.out.free 3
        have z2 : wr.frozen? ⟨H, 2, none⟩ = false := HS.out.free 2
        have z1 : wr.frozen? ⟨H, 1, none⟩ = false := HS.out.free 1
        go_upto_region 12 with fail
        clear e1 e2 e3 e4 z4 z3 z2 z1
        have HS1 := Lib.hid (HS.out.turn0 HN2.out HG.out)
        generalize (((wr.setCell ⟨H, 4, none⟩ (.int .i64 0)).setCell ⟨H, 3, none⟩ (.bool false)).setCell ⟨H, 2, none⟩ (.bool false)).setCell ⟨H, 1, none⟩ (.int .u16 0) = w5 at HS1 ⊢
        clear HS
        obtain ⟨⟨e0, e1, e2, e3, e4, e5, e6, e7, e8, e9⟩, f0, f1, f2, f3, f4, f5, f6, f7, f8, f9⟩ := HS1.out.cell
        clear f0 f1 f2 f3 f4 f5 f6 f7 f8 f9
        replace e0 : w5.cell? ⟨H, 0, none⟩ = some (.int .u8 p.tos) := e0
        replace e1 : w5.cell? ⟨H, 1, none⟩ = some (.int .u16 0) := e1
        replace e2 : w5.cell? ⟨H, 2, none⟩ = some (.bool false) := e2
        replace e3 : w5.cell? ⟨H, 3, none⟩ = some (.bool false) := e3
        replace e4 : w5.cell? ⟨H, 4, none⟩ = some (.int .i64 0) := e4
        replace e5 : w5.cell? ⟨H, 5, none⟩ = some (.int .u8 p.ttl) := e5
        replace e6 : w5.cell? ⟨H, 6, none⟩ = some (.int .u8 p.proto) := e6
        replace e7 : w5.cell? ⟨H, 7, none⟩ = some (.int .u32 p.src) := e7
        replace e8 : w5.cell? ⟨H, 8, none⟩ = some (.int .u32 p.dst) := e8
        replace e9 : w5.cell? ⟨H, 9, none⟩ = some (.slice (some ⟨gp, 0, none⟩) p.few.b.length cp) := e9
        have XSp : Hid (Calls Tryd.prog 17 #[.agg #[.int .u8 p.tos, .int .u16 0, .bool false, .bool false, .int .i64 0, .int .u8 p.ttl, .int .u8 p.proto, .int .u32 p.src, .int .u32 p.dst, .slice (some ⟨gp, 0, none⟩) p.few.b.length cp], .int .i64 mtu] w5 (SplitVal2 (p.as 0) mtu w5)) := Lib.hid (fsplit_any (p.as 0) (some ⟨gp, 0, none⟩) cp mtu w5 (Ip.as_in HFp.out (by omega)) (Ip.as_len _ _) hcp (by omega) (by omega) HS1.out.rp)
        go_upto_region 13 with (go_at_call 17; (with_reducible refine XSp.out.mono ?_); rintro e w6 ⟨l0, A0, c0, ev, rfl, hE, hm, hPk⟩; (have HE := Lib.hid hE); (have HM := Lib.hid hm); (have HK := Lib.hid hPk); clear hE hm hPk)
        clear e0 e1 e2 e3 e4 e5 e6 e7 e8 e9 XSp
        have h0 : splitC (p.as 0) mtu = 0 := splitC_plain hmt.1
        obtain rfl : ev = .nilIface := by
          rcases HE.out with ⟨_, h⟩ | ⟨h, _⟩
          · exact h
          · exact absurd h0 h
        have hlm := HM.out
        rw [if_pos h0] at hlm
        have HLM := Lib.hid hlm
        clear h0 hlm HE HM
        have HS2 := Lib.hid (HS1.out.below HGe.out HK.out.base)
        have HQ2 : Hid (Pts w5.heap.size w6 (.slice A0 l0.length c0) l0) := Lib.hid ⟨HK.out.row, HK.out.own⟩
        have hH2 : H2 < w5.heap.size := (Array.getElem?_eq_some_iff.1 HS1.out.parts).1
        have HL2 := Lib.hid hH2
        clear HS1 HK hH2
        have y0 : w6.cell? ⟨H2, 0, none⟩ = some (.slice none 0 0) := HS2.out.cell2.1
        have y1 : w6.frozen? ⟨H2, 0, none⟩ = false := HS2.out.free2 0
        go_wp2_with fail
        exact ⟨.inr (.inl ⟨l0, A0, c0, w5.heap.size, rfl, HS2.out.put0 HN2.out HG2.out _, HL2.out, HQ2.out.set HL2.out _ _, HLM.out⟩), by simp [intOf]⟩
      · have HS := Lib.hid hS
        have HN0 := Lib.hid hn0
        have HP0 := Lib.hid hP0
        have HLM0 := Lib.hid hlm0
        clear hS hn0 hP0 hlm0 HS0
        obtain ⟨⟨e0, e1, e2, e3, e4, e5, e6, e7, e8, e9⟩, f0, f1, f2, f3, f4, f5, f6, f7, f8, f9⟩ := HS.out.cell
        clear e0 e1 e2 e3 e4 e5 e6 e7 e8 e9 f0 f5 f6 f7 f8 f9
        have z4 : wr.frozen? ⟨H, 14, none⟩ = false := HS.out.free 14
        have z3 : wr.frozen? ⟨H, 13, none⟩ = false := HS.out.free 13
        have z2 : wr.frozen? ⟨H, 12, none⟩ = false := HS.out.free 12
        have z1 : wr.frozen? ⟨H, 11, none⟩ = false := HS.out.free 11
        go_upto_region 12 with fail
        clear f1 f2 f3 f4 z4 z3 z2 z1
        have HS1 := Lib.hid (HS.out.turn1 HN2.out HG.out)
        have HP1 : Hid (Pts n0 ((((wr.setCell ⟨H, 14, none⟩ (.int .i64 0)).setCell ⟨H, 13, none⟩ (.bool false)).setCell ⟨H, 12, none⟩ (.bool false)).setCell ⟨H, 11, none⟩ (.int .u16 1)) (.slice A0 l0.length c0) l0) := Lib.hid (by
          have hn : H < n0 := by have := HN0.out; have := HN2.out; have := HNH.out; omega
          exact (((HP0.out.set hn _ _).set hn _ _).set hn _ _).set hn _ _)
        generalize (((wr.setCell ⟨H, 14, none⟩ (.int .i64 0)).setCell ⟨H, 13, none⟩ (.bool false)).setCell ⟨H, 12, none⟩ (.bool false)).setCell ⟨H, 11, none⟩ (.int .u16 1) = w5 at HS1 HP1 ⊢
        clear HS
        obtain ⟨⟨e0, e1, e2, e3, e4, e5, e6, e7, e8, e9⟩, f0, f1, f2, f3, f4, f5, f6, f7, f8, f9⟩ := HS1.out.cell
        clear e0 e1 e2 e3 e4 e5 e6 e7 e8 e9
        replace f0 : w5.cell? ⟨H, 10, none⟩ = some (.int .u8 q.tos) := f0
        replace f1 : w5.cell? ⟨H, 11, none⟩ = some (.int .u16 1) := f1
        replace f2 : w5.cell? ⟨H, 12, none⟩ = some (.bool false) := f2
        replace f3 : w5.cell? ⟨H, 13, none⟩ = some (.bool false) := f3
        replace f4 : w5.cell? ⟨H, 14, none⟩ = some (.int .i64 0) := f4
        replace f5 : w5.cell? ⟨H, 15, none⟩ = some (.int .u8 q.ttl) := f5
        replace f6 : w5.cell? ⟨H, 16, none⟩ = some (.int .u8 q.proto) := f6
        replace f7 : w5.cell? ⟨H, 17, none⟩ = some (.int .u32 q.src) := f7
        replace f8 : w5.cell? ⟨H, 18, none⟩ = some (.int .u32 q.dst) := f8
        replace f9 : w5.cell? ⟨H, 19, none⟩ = some (.slice (some ⟨gq, 0, none⟩) q.few.b.length cq) := f9
        have XSp : Hid (Calls Tryd.prog 17 #[.agg #[.int .u8 q.tos, .int .u16 1, .bool false, .bool false, .int .i64 0, .int .u8 q.ttl, .int .u8 q.proto, .int .u32 q.src, .int .u32 q.dst, .slice (some ⟨gq, 0, none⟩) q.few.b.length cq], .int .i64 mtu] w5 (SplitVal2 (q.as 1) mtu w5)) := Lib.hid (fsplit_any (q.as 1) (some ⟨gq, 0, none⟩) cq mtu w5 (Ip.as_in HFq.out (by omega)) (Ip.as_len _ _) hcq (by omega) (by omega) HS1.out.rq)
        go_upto_region 13 with (go_at_call 17; (with_reducible refine XSp.out.mono ?_); rintro e w6 ⟨l1, A1, c1, ev, rfl, hE, hm, hPk⟩; (have HE := Lib.hid hE); (have HM := Lib.hid hm); (have HK := Lib.hid hPk); clear hE hm hPk)
        clear f0 f1 f2 f3 f4 f5 f6 f7 f8 f9 XSp
        have h0 : splitC (q.as 1) mtu = 0 := splitC_plain hmt.1
        obtain rfl : ev = .nilIface := by
          rcases HE.out with ⟨_, h⟩ | ⟨h, _⟩
          · exact h
          · exact absurd h0 h
        have hlm := HM.out
        rw [if_pos h0] at hlm
        have HLM := Lib.hid hlm
        clear h0 hlm HE HM
        have HS2 := Lib.hid (HS1.out.below HGe.out HK.out.base)
        have HQ2 : Hid (Pts w5.heap.size w6 (.slice A1 l1.length c1) l1) := Lib.hid ⟨HK.out.row, HK.out.own⟩
        have hH2 : H2 < w5.heap.size := (Array.getElem?_eq_some_iff.1 HS1.out.parts).1
        have HL2 := Lib.hid hH2
        have HP2 := Lib.hid (HP1.out.below HK.out.base)
        clear HS1 HK hH2 HP1
        have y0 : w6.cell? ⟨H2, 1, none⟩ = some (.slice none 0 0) := HS2.out.cell2.2
        have y1 : w6.frozen? ⟨H2, 1, none⟩ = false := HS2.out.free2 1
        go_wp2_with fail
        exact ⟨.inr (.inr ⟨l0, A0, c0, n0, l1, A1, c1, w5.heap.size, rfl, HS2.out.put1 HN2.out HG2.out _, ⟨HN0.out, HP2.out.set HN0.out _ _, HLM0.out⟩, HL2.out, HQ2.out.set HL2.out _ _, HLM.out⟩), by simp [intOf]⟩
      · have HS := Lib.hid hS
        have HN0 := Lib.hid hn0
        have HP0 := Lib.hid hP0
        have HLM0 := Lib.hid hlm0
        have HN1 := Lib.hid hn1
        have HP1 := Lib.hid hP1
        have HLM1 := Lib.hid hlm1
        clear hS hn0 hP0 hlm0 hn1 hP1 hlm1 HS0
        generalize wr = W5 at *
        have hlt2 : H2 < W5.heap.size := (Array.getElem?_eq_some_iff.1 HS.out.parts).1
        have XN := Lib.hid (Gx.new XX.out hlt2 (tm := 9) (by unfold UW; omega))
        clear hlt2
        go_upto_region 17 with (go_at_call 20; (with_reducible refine XN.out.mono ?_); rintro e w7 ⟨r, rfl, hF, hp2⟩; (have F7 := Lib.hid hF); (have HP7 := Lib.hid (hp2.trans HS.out.parts)); clear hF hp2)
        clear XN
        have hl0 : 0 < l0.length := by
          have h := congrArg List.length HLM0.out
          rw [List.length_map] at h
          have h2 := splitL_pos (p.as 0) (mtu := mtu) hmt.1
          omega
        obtain ⟨y0, hy0⟩ : ∃ y, l0[0]? = some y := ⟨_, List.getElem?_eq_getElem hl0⟩
        obtain ⟨g0, rfl, _⟩ := HP0.out.at hy0
        have hcl0 := HP0.out.lenc
        clear hy0
        have hg0 : n0 ≤ g0 ∧ g0 < W5.heap.size := HP0.out.row.lt g0 rfl
        have HGK0 := Lib.hid hg0
        clear hg0
        have hle0 : l0.length ≤ 2001 := by
          have h := congrArg List.length HLM0.out
          rw [List.length_map] at h
          have h2 := splitL_le (p.as 0) (mtu := mtu) hmt.1
          have h3 := Ip.as_len p 0
          omega
        have hl1 : 0 < l1.length := by
          have h := congrArg List.length HLM1.out
          rw [List.length_map] at h
          have h2 := splitL_pos (q.as 1) (mtu := mtu) hmt.1
          omega
        obtain ⟨y1, hy1⟩ : ∃ y, l1[0]? = some y := ⟨_, List.getElem?_eq_getElem hl1⟩
        obtain ⟨g1, rfl, _⟩ := HP1.out.at hy1
        have hcl1 := HP1.out.lenc
        clear hy1
        have hg1 : n1 ≤ g1 ∧ g1 < W5.heap.size := HP1.out.row.lt g1 rfl
        have HGK1 := Lib.hid hg1
        clear hg1
        have hle1 : l1.length ≤ 2001 := by
          have h := congrArg List.length HLM1.out
          rw [List.length_map] at h
          have h2 := splitL_le (q.as 1) (mtu := mtu) hmt.1
          have h3 := Ip.as_len q 1
          omega
        go_wp2_with fail
        go_loopw [16] (fun s16 wz => ∃ (j0 j1 o0 o1 : Nat) (S : List Hp), s16 = .int .i64 ((j0 + j1 : Nat) : Int) ∧ j0 ≤ l0.length ∧ j1 ≤ l1.length ∧ ((j0 < l0.length → o0 = j0 * 10) ∧ (j1 < l1.length → o1 = j1 * 10)) ∧ Gx R W5 H2 wz r 9 S ∧ wz.heap[H2]? = some (.cells #[.slice (some ⟨g0, o0, none⟩) (l0.length - j0) (c0 - j0), .slice (some ⟨g1, o1, none⟩) (l1.length - j1) (c1 - j1)] t2 (0, 0)) ∧ HeapIs S (p.as 0).key4 1 (seenJ (splitL (p.as 0) mtu) j0) ∧ HeapIs S (q.as 1).key4 1 (seenJ (splitL (q.as 1) mtu) j1) ∧ S.length = (if seenJ (splitL (p.as 0) mtu) j0 = [] then 0 else 1) + (if seenJ (splitL (q.as 1) mtu) j1 = [] then 0 else 1)) (fun s16 _ => l0.length + l1.length - (intOf s16).toNat)
        case atStart => exact ⟨0, 0, 0, 0, [], rfl, Nat.zero_le _, Nat.zero_le _, ⟨fun _ => rfl, fun _ => rfl⟩, F7.out, by simpa using HP7.out, .inl ⟨seenJ_zero _, rfl⟩, .inl ⟨seenJ_zero _, rfl⟩, by rw [seenJ_zero, seenJ_zero]; rfl⟩
        case round =>
          obtain ⟨j0, j1, o0, o1, S, rfl, hj0, hj1, hoo, hF, hp2, hH0, hH1, hSl⟩ := hrel
          have HOO := Lib.hid hoo
          clear hoo
          have HF := Lib.hid hF
          have HP2 := Lib.hid hp2
          have HH0 := Lib.hid hH0
          have HH1 := Lib.hid hH1
          have HSl := Lib.hid hSl
          clear hF hp2 hH0 hH1 hSl F7 HP7
          obtain ⟨m0', hm0'⟩ : ∃ m, l0.length - j0 = m := ⟨_, rfl⟩
          obtain ⟨m1', hm1'⟩ : ∃ m, l1.length - j1 = m := ⟨_, rfl⟩
          obtain ⟨d0, hd0⟩ : ∃ m, c0 - j0 = m := ⟨_, rfl⟩
          obtain ⟨d1, hd1⟩ : ∃ m, c1 - j1 = m := ⟨_, rfl⟩
          have z0 : wr.cell? ⟨H2, 0, none⟩ = some (.slice (some ⟨g0, o0, none⟩) m0' d0) := by
            rw [cell_of_row wr H2 _ _ _ _ HP2.out, ← hm0', ← hd0]
            rfl
          have z1 : wr.cell? ⟨H2, 1, none⟩ = some (.slice (some ⟨g1, o1, none⟩) m1' d1) := by
            rw [cell_of_row wr H2 _ _ _ _ HP2.out, ← hm1', ← hd1]
            rfl
          have Hm := Lib.hid (And.intro hm0' (And.intro hm1' (And.intro hd0 hd1)))
          clear hm0' hm1' hd0 hd1
          have qw : IntKind.i64.wrap ((m0' : Int) + (m1' : Int)) = (m0' : Int) + (m1' : Int) := by have h := Hm.out.1; have h2 := Hm.out.2.1; rw [IntKind.wrap_i64]; omega
          by_cases hmm : 0 < m0' + m1'
          · have q1 : decide (0 < (m0' : Int) + (m1' : Int)) = true := decide_eq_true (by omega)
            go_upto_region 23 with fail
            have hbw : Below w.heap.size w wr := HF.out.below (by rw [HGe.out]; exact HS.out.base) (by rw [HGe.out]; exact HG2.out)
            have HBW := Lib.hid hbw
            clear hbw
            obtain ⟨i0, hi0⟩ : ∃ i, j0 + j1 = i := ⟨_, rfl⟩
            have Hi0 := Lib.hid hi0
            rw [hi0]
            clear hi0
            go_cut [84] from 65 to 131 (fun s84 wx => ∃ b' : Bool, s84 = .bool b' ∧ wx = wr)
            case first =>
              by_cases hi : i0 < M
              · have qi : decide ((i0 : Int) < (M : Int)) = true := decide_eq_true (by omega)
                obtain ⟨gT, oT, b', rfl, hcT⟩ := HT.out i0 hi
                have hcT := (HBW.out.cell (World.block_lt_of_cell? w _ hcT)).trans hcT
                go_wp2_with fail
                go_meet
                exact ⟨_, rfl, rfl⟩
              · have qi : decide ((i0 : Int) < (M : Int)) = false := decide_eq_false (by omega)
                go_wp2_with fail
                go_meet
                exact ⟨_, rfl, rfl⟩
            case rest =>
              obtain ⟨b', rfl, rfl⟩ := hcut
              go_upto_if 84 with fail
              go_cut [17] from 65 to 131 (fun s17 wx => ∃ kk : Int, s17 = .int .i64 kk ∧ (kk = 0 ∨ kk = 1) ∧ wx = wc)
              case first =>
                cases b'
                · go_wp2_with fail
                  go_meet
                  exact ⟨_, rfl, .inl rfl, rfl⟩
                · go_wp2_with fail
                  go_meet
                  exact ⟨_, rfl, .inr rfl, rfl⟩
              case rest =>
              obtain ⟨kk, rfl, hkk, rfl⟩ := hcut
              have HKK := Lib.hid hkk
              clear hkk
              obtain ⟨b20, qb0⟩ : ∃ b, ((m0' : Int) == 0) = b := ⟨_, rfl⟩
              obtain ⟨b21, qb1⟩ : ∃ b, ((m1' : Int) == 0) = b := ⟨_, rfl⟩
              go_upto_region 25 with fail
              go_cut [89] from 65 to 131 (fun s89 wx => ∃ b2 : Bool, s89 = .bool b2 ∧ ((kk = 0 ∧ b20 = b2) ∨ (kk = 1 ∧ b21 = b2)) ∧ wx = wc)
              case first =>
                rcases HKK.out with e | e
                · subst e
                  go_wp2_with fail
                  go_meet
                  exact ⟨_, rfl, by simp, rfl⟩
                · subst e
                  go_wp2_with fail
                  go_meet
                  exact ⟨_, rfl, by simp, rfl⟩
              case rest =>
              obtain ⟨b2, rfl, hb2, rfl⟩ := hcut
              have HB2 := Lib.hid hb2
              have HQ0 := Lib.hid qb0
              have HQ1 := Lib.hid qb1
              clear hb2 qb0 qb1 HKK
              go_upto_if 89 with fail
              go_cut [17] from 65 to 131 (fun s17 wx => ((s17 = .int .i64 0 ∧ 0 < m0') ∨ (s17 = .int .i64 1 ∧ 0 < m1')) ∧ wx = wc)
              case first =>
                have t0 : (b20 = false → 0 < m0') ∧ (b20 = true → m0' = 0) := by
                  have h := HQ0.out
                  constructor
                  · intro h2
                    rw [h2, beq_eq_false_iff_ne] at h
                    omega
                  · intro h2
                    rw [h2, beq_iff_eq] at h
                    omega
                have t1 : (b21 = false → 0 < m1') ∧ (b21 = true → m1' = 0) := by
                  have h := HQ1.out
                  constructor
                  · intro h2
                    rw [h2, beq_eq_false_iff_ne] at h
                    omega
                  · intro h2
                    rw [h2, beq_iff_eq] at h
                    omega
                have T0 := Lib.hid t0
                have T1 := Lib.hid t1
                clear t0 t1
                rcases HB2.out with ⟨e, e2⟩ | ⟨e, e2⟩
                · subst e
                  cases b2
                  · have hx := Lib.hid (T0.out.1 e2)
                    clear e2
                    go_wp2_with fail
                    go_meet
                    exact ⟨.inl ⟨rfl, hx.out⟩, rfl⟩
                  · have hx : Hid (0 < m1') := Lib.hid (by have h := T0.out.2 e2; omega)
                    clear e2
                    go_wp2_with fail
                    go_meet
                    exact ⟨.inr ⟨rfl, hx.out⟩, rfl⟩
                · subst e
                  cases b2
                  · have hx := Lib.hid (T1.out.1 e2)
                    clear e2
                    go_wp2_with fail
                    go_meet
                    exact ⟨.inr ⟨rfl, hx.out⟩, rfl⟩
                  · have hx : Hid (0 < m0') := Lib.hid (by have h := T1.out.2 e2; omega)
                    clear e2
                    go_wp2_with fail
                    go_meet
                    exact ⟨.inl ⟨rfl, hx.out⟩, rfl⟩
              case rest =>
              obtain ⟨h17, rfl⟩ := hcut
              clear HB2 HQ0 HQ1
              rcases h17 with ⟨rfl, hz⟩ | ⟨rfl, hz⟩
              · go_upto_region 27 with fail
                have ho0 : o0 = j0 * 10 := HOO.out.1 (by have h := Hm.out.1; omega)
                have z0b : wc.cell? ⟨H2, 0, none⟩ = some (.slice (some ⟨g0, j0 * 10, none⟩) m0' d0) := ho0 ▸ z0
                clear z0
                have HO := Lib.hid ho0
                clear ho0
                obtain ⟨y, hy⟩ : ∃ y, l0[j0]? = some y := ⟨_, List.getElem?_eq_getElem (by have h := Hm.out.1; omega)⟩
                have hX : Pv.At wc g0 (j0 * 10) y := by
                  obtain ⟨_, e, h⟩ := HP0.out.at hy
                  cases e
                  rw [Nat.zero_add] at h
                  exact HF.out.at h (by have h1 := HGK0.out.1; have h2 := HN0.out; omega)
                have hyl : y ∈ l0 := List.mem_of_getElem? hy
                have hyp : (splitL (p.as 0) mtu)[j0]? = some y.p := by rw [← HLM0.out, List.getElem?_map, hy]; rfl
                have hin := splitL_in (Ip.as_in HFp.out (i := 0) (by omega)) (splitC_plain hmt.1) (x := y.p) (List.mem_of_getElem? hyp)
                have hrd5 := own_rd (HP0.out.own y hyl)
                have hblk : ∀ a, y.B = some a → n0 ≤ a.block ∧ a.block < W5.heap.size := fun a ha => (HP0.out.own y hyl).lt a.block (by show Value.ownBlock (.slice y.B y.p.b.length y.c) = _; rw [ha]; rfl)
                have hcap : y.c ≤ 9223372036854775807 := by
                  obtain ⟨A', c', e, _, h3, _⟩ := own_shape (HP0.out.own y hyl)
                  have h4 : Value.slice y.B y.p.b.length y.c = .slice A' y.p.b.length c' := e
                  simp only [Value.slice.injEq] at h4
                  omega
                have XT := Lib.hid (HF.out.take XX.out (now := 1) hin.1 (Nat.le_trans hin.2 (Ip.as_len p 0)) (by unfold UW; omega) hcap (HF.out.rd hrd5 (fun _ a ha => by have h1 := (hblk a ha).1; have h2 := HN0.out; omega)) (fun _ a ha => (hblk a ha).2))
                have XS2 := Lib.hid (fun S' o c b (hT : TakeR S y.p 1 S' o c b) => two_step rfl rfl (Ip.plain_bad _) (splitL_one (p.as 0) hmt.1) (plain_tiles (p := { p with id := 0 }) hmt.1) (HF.out.un XX.out).1 (by rw [HSl.out]; split <;> split <;> omega) hyp HH0.out hT)
                obtain ⟨k0, k1, k2, k3, k4, k5, k6, k7, k8, k9⟩ := hX
                clear hy hyl hin hrd5 hblk hcap
                have hlen : (splitL (p.as 0) mtu).length = l0.length := by rw [← HLM0.out, List.length_map]
                by_cases hlast : j0 + 1 = (splitL (p.as 0) mtu).length
                · go_upto_region 28 with (first | (go_at_call 21; (with_reducible refine XT.out.mono ?_); rintro e w7 ⟨S7, o7, n7, b7, hTR, hV, hF7, hp7⟩; (have hkk := hTR.other (HF.out.un XX.out).1 (k := (q.as 1).key4)); (obtain ⟨rfl, rfl, ho, hH7, hl7, hk7⟩ := XS2.out _ _ _ _ hTR); (rw [if_pos hlast] at ho; subst ho); (obtain ⟨B6, d6, ev7, he7, hR7, hE7⟩ := hV); (obtain rfl : e = .returned (.tuple #[.agg #[.int .u8 p.tos, .int .u16 0, .bool false, .bool false, .int .i64 0, .int .u8 p.ttl, .int .u8 p.proto, .int .u32 p.src, .int .u32 p.dst, .slice B6 p.few.b.length d6], .bool true, ev7]) := he7); (obtain rfl : ev7 = .nilIface := by (rcases hE7 with ⟨_, h⟩ | ⟨h, _⟩; exact h; exact absurd rfl h)); (have F7 := Lib.hid hF7); (have P7 := Lib.hid (hp7.trans HP2.out)); (have H7 := Lib.hid hH7); (have L7 := Lib.hid hl7); (have K7 := Lib.hid (hkk (by rw [hk7]; exact two_keys q p))); (have R7 := Lib.hid hR7); clear hTR hF7 hp7 hH7 hl7 hk7 hkk hE7 hR7) | (refine wpList_store_row rfl 42 (.tmp 18) (.tmp 100) rfl w7.heap.size #[.int .u8 p.tos, .int .u16 0, .bool false, .bool false, .int .i64 0, .int .u8 p.ttl, .int .u8 p.proto, .int .u32 p.src, .int .u32 p.dst, .slice B6 p.few.b.length d6] rfl rfl 42 _ (heap_alloc_new w7 _) ipSize rfl (by simp [Value.oneCell']) ?_; rw [setRow_alloc]))
                  clear k0 k1 k2 k3 k4 k5 k6 k7 k8 k9 XT XS2
                  have B8 := Lib.hid ((Below.refl w7.heap.size w7).alloc (Nat.le_refl _) (.cells #[.int .u8 p.tos, .int .u16 0, .bool false, .bool false, .int .i64 0, .int .u8 p.ttl, .int .u8 p.proto, .int .u32 p.src, .int .u32 p.dst, .slice B6 p.few.b.length d6] 42))
                  have M8 : Hid (IpAt (w7.alloc (.cells #[.int .u8 p.tos, .int .u16 0, .bool false, .bool false, .int .i64 0, .int .u8 p.ttl, .int .u8 p.proto, .int .u32 p.src, .int .u32 p.dst, .slice B6 p.few.b.length d6] 42)) w7.heap.size (p.as 0) (.slice B6 p.few.b.length d6)) := Lib.hid (heap_alloc_new w7 _)
                  have hg8 : W5.heap.size ≤ w7.heap.size := F7.out.size
                  generalize w7.alloc (.cells #[.int .u8 p.tos, .int .u16 0, .bool false, .bool false, .int .i64 0, .int .u8 p.ttl, .int .u8 p.proto, .int .u32 p.src, .int .u32 p.dst, .slice B6 p.few.b.length d6] 42) = w8 at B8 M8 ⊢
                  have F8 := Lib.hid (F7.out.to XX.out B8.out)
                  have P8 := Lib.hid ((B8.out.block H2 (Array.getElem?_eq_some_iff.1 P7.out).1).trans P7.out)
                  have R8 : Hid (Rd w8 (.slice B6 p.few.b.length d6) p.few.b) := Lib.hid (R7.out.below B8.out)
                  generalize w7.heap.size = G8 at M8 hg8 ⊢
                  have HG8 := Lib.hid hg8
                  clear hg8
                  have z8 : w8.cell? ⟨H2, 0, none⟩ = some (.slice (some ⟨g0, j0 * 10, none⟩) m0' d0) := by
                    rw [cell_of_row w8 H2 _ _ _ _ P8.out, ← Hm.out.1, ← Hm.out.2.2.1, ← HO.out]
                    rfl
                  have y8 : w8.frozen? ⟨H2, 0, none⟩ = false := by simp [World.frozen?, P8.out]
                  have u1 : (1 : Int) ≤ (m0' : Int) := by omega
                  have u2 : (m0' : Int) ≤ (d0 : Int) := by have h1 := Hm.out.1; have h2 := Hm.out.2.2.1; omega
                  go_upto_region 29 with fail
                  obtain ⟨m2, hm2⟩ : ∃ m, m0' - 1 = m := ⟨_, rfl⟩
                  rw [hm2]
                  obtain ⟨d2, hd2⟩ : ∃ m, d0 - 1 = m := ⟨_, rfl⟩
                  rw [hd2]
                  obtain ⟨oo, hoo⟩ : ∃ oo, (if d0 = 1 then some (⟨g0, j0 * 10, none⟩ : Addr) else some ⟨g0, j0 * 10 + 10, none⟩) = some ⟨g0, oo, none⟩ := by
                    split
                    · exact ⟨_, rfl⟩
                    · exact ⟨_, rfl⟩
                  rw [hoo]
                  have hlt2 : H2 < W5.heap.size := (Array.getElem?_eq_some_iff.1 HS.out.parts).1
                  have hneG : G8 ≠ H2 := by have h1 := HG8.out; omega
                  have F9 := Lib.hid (F8.out.set XX.out 0 (.slice (some ⟨g0, oo, none⟩) m2 d2))
                  have P9 : Hid ((w8.setCell ⟨H2, 0, none⟩ (.slice (some ⟨g0, oo, none⟩) m2 d2)).heap[H2]? = some (.cells #[.slice (some ⟨g0, oo, none⟩) m2 d2, .slice (some ⟨g1, o1, none⟩) (l1.length - j1) (c1 - j1)] t2 (0, 0))) := Lib.hid (by
                    have h := P8.out
                    unfold World.setCell
                    simp only [Array.getElem?_modify, if_true, h, Option.map_some]
                    rfl)
                  have M9 : Hid (IpAt (w8.setCell ⟨H2, 0, none⟩ (.slice (some ⟨g0, oo, none⟩) m2 d2)) G8 (p.as 0) (.slice B6 p.few.b.length d6)) := Lib.hid ((Below.heap_setCell _ _ _ _ hneG).trans M8.out)
                  have R9 : Hid (Rd (w8.setCell ⟨H2, 0, none⟩ (.slice (some ⟨g0, oo, none⟩) m2 d2)) (.slice B6 p.few.b.length d6) p.few.b) := Lib.hid (rd_setA R8.out (rd_not R8.out P8.out) _ _)
                  clear z8 y8 u1 u2 hneG hoo F8 P8 M8 R8 B8 F7 P7 R7
                  generalize w8.setCell ⟨H2, 0, none⟩ (.slice (some ⟨g0, oo, none⟩) m2 d2) = w9 at F9 P9 M9 R9 ⊢
                  have z9 : w9.cell? ⟨H2, 0, none⟩ = some (.slice (some ⟨g0, oo, none⟩) m2 d2) := by
                    rw [cell_of_row w9 H2 _ _ _ _ P9.out]
                    rfl
                  have hown9 := (F9.out.old H (Array.getElem?_eq_some_iff.1 HS.out.own).1 HN2.out).trans HS.out.own
                  have hO9 : Rd w9 (.slice (some ⟨gp, 0, none⟩) p.few.b.length cp) p.few.b := F9.out.rd HS.out.rp (fun hb a ha => by cases ha; exact (HS.out.np hb).2)
                  have hxin := Ip.as_in HFp.out (i := 0) (by omega)
                  have KS : Hid (∀ W', Below w9.heap.size w9 W' → (fun W' : World => W'.cell? ⟨G8, 0, none⟩ = some (.int .u8 p.tos) ∧ W'.cell? ⟨G8, 1, none⟩ = some (.int .u16 0) ∧ W'.cell? ⟨G8, 2, none⟩ = some (.bool false) ∧ W'.cell? ⟨G8, 3, none⟩ = some (.bool false) ∧ W'.cell? ⟨G8, 4, none⟩ = some (.int .i64 0) ∧ W'.cell? ⟨G8, 5, none⟩ = some (.int .u8 p.ttl) ∧ W'.cell? ⟨G8, 6, none⟩ = some (.int .u8 p.proto) ∧ W'.cell? ⟨G8, 7, none⟩ = some (.int .u32 p.src) ∧ W'.cell? ⟨G8, 8, none⟩ = some (.int .u32 p.dst) ∧ W'.cell? ⟨G8, 9, none⟩ = some (.slice B6 p.few.b.length d6) ∧ W'.cell? ⟨H, 0, none⟩ = some (.int .u8 p.tos) ∧ W'.cell? ⟨H, 1, none⟩ = some (.int .u16 0) ∧ W'.cell? ⟨H, 2, none⟩ = some (.bool false) ∧ W'.cell? ⟨H, 3, none⟩ = some (.bool false) ∧ W'.cell? ⟨H, 4, none⟩ = some (.int .i64 0) ∧ W'.cell? ⟨H, 5, none⟩ = some (.int .u8 p.ttl) ∧ W'.cell? ⟨H, 6, none⟩ = some (.int .u8 p.proto) ∧ W'.cell? ⟨H, 7, none⟩ = some (.int .u32 p.src) ∧ W'.cell? ⟨H, 8, none⟩ = some (.int .u32 p.dst) ∧ W'.cell? ⟨H, 9, none⟩ = some (.slice (some ⟨gp, 0, none⟩) p.few.b.length cp) ∧ W'.cell? ⟨H2, 0, none⟩ = some (.slice (some ⟨g0, oo, none⟩) m2 d2)) W') := Lib.hid (fun W' hW => by
                    have a := IpAt.cells (p := p.as 0) (bv := .slice B6 p.few.b.length d6) ((hW.block G8 (Array.getElem?_eq_some_iff.1 M9.out).1).trans M9.out)
                    have b := (hW.block H (Array.getElem?_eq_some_iff.1 hown9).1).trans hown9
                    have z := (hW.cell (World.block_lt_of_cell? w9 _ z9)).trans z9
                    refine ⟨a.1, a.2.1, a.2.2.1, a.2.2.2.1, a.2.2.2.2.1, a.2.2.2.2.2.1, a.2.2.2.2.2.2.1, a.2.2.2.2.2.2.2.1, a.2.2.2.2.2.2.2.2.1, a.2.2.2.2.2.2.2.2.2, ?_, ?_, ?_, ?_, ?_, ?_, ?_, ?_, ?_, ?_, z⟩ <;> (rw [cell_of_row W' H _ _ _ _ b]; rfl))
                  have XO1 : Hid (∀ W, Below w9.heap.size w9 W → Calls Tryd.prog 16 #[.agg #[.int .u8 p.tos, .int .u16 0, .bool false, .bool false, .int .i64 0, .int .u8 p.ttl, .int .u8 p.proto, .int .u32 p.src, .int .u32 p.dst, .slice B6 p.few.b.length d6]] W fun e w' => e = .returned (.agg #[.int .u32 p.tos, .int .u32 0, .bool false, .bool false, .int .i64 0, .int .u32 p.ttl, .int .u32 p.proto, .int .u32 p.src, .int .u32 p.dst, .string (txt p.few.b)]) ∧ Below W.heap.size W w') := Lib.hid (fun W hW => vOf_lit (p.as 0) hxin B6 d6 W (R9.out.below hW))
                  have XO2 : Hid (∀ W, Below w9.heap.size w9 W → Calls Tryd.prog 16 #[.agg #[.int .u8 p.tos, .int .u16 0, .bool false, .bool false, .int .i64 0, .int .u8 p.ttl, .int .u8 p.proto, .int .u32 p.src, .int .u32 p.dst, .slice (some ⟨gp, 0, none⟩) p.few.b.length cp]] W fun e w' => e = .returned (.agg #[.int .u32 p.tos, .int .u32 0, .bool false, .bool false, .int .i64 0, .int .u32 p.ttl, .int .u32 p.proto, .int .u32 p.src, .int .u32 p.dst, .string (txt p.few.b)]) ∧ Below W.heap.size W w') := Lib.hid (fun W hW => vOf_lit (p.as 0) hxin (some ⟨gp, 0, none⟩) cp W (hO9.below hW))
                  have heq0 := fun W => refIp_eqB (p.as 0) (p.as 0) W
                  simp only [ipB_same] at heq0
                  have heq : ∀ W, (Op.equalIn 10000 45 (.agg #[.int .u32 p.tos, .int .u32 0, .bool false, .bool false, .int .i64 0, .int .u32 p.ttl, .int .u32 p.proto, .int .u32 p.src, .int .u32 p.dst, .string (txt p.few.b)]) (.agg #[.int .u32 p.tos, .int .u32 0, .bool false, .bool false, .int .i64 0, .int .u32 p.ttl, .int .u32 p.proto, .int .u32 p.src, .int .u32 p.dst, .string (txt p.few.b)])).run Tryd.prog W = .ok true W := heq0
                  have q9 : ((m2 : Int) == 0) = true := by have h1 := Hm.out.1; rw [beq_iff_eq]; omega
                  have qi0 : i0 ≤ 4002 := by have h := Hi0.out; omega
                  clear hown9 hO9 hxin heq0 M9 R9 z9 hlt2
                  as_aux_lemma =>
                  go_region_held_law (fun W' : World => W'.cell? ⟨G8, 0, none⟩ = some (.int .u8 p.tos) ∧ W'.cell? ⟨G8, 1, none⟩ = some (.int .u16 0) ∧ W'.cell? ⟨G8, 2, none⟩ = some (.bool false) ∧ W'.cell? ⟨G8, 3, none⟩ = some (.bool false) ∧ W'.cell? ⟨G8, 4, none⟩ = some (.int .i64 0) ∧ W'.cell? ⟨G8, 5, none⟩ = some (.int .u8 p.ttl) ∧ W'.cell? ⟨G8, 6, none⟩ = some (.int .u8 p.proto) ∧ W'.cell? ⟨G8, 7, none⟩ = some (.int .u32 p.src) ∧ W'.cell? ⟨G8, 8, none⟩ = some (.int .u32 p.dst) ∧ W'.cell? ⟨G8, 9, none⟩ = some (.slice B6 p.few.b.length d6) ∧ W'.cell? ⟨H, 0, none⟩ = some (.int .u8 p.tos) ∧ W'.cell? ⟨H, 1, none⟩ = some (.int .u16 0) ∧ W'.cell? ⟨H, 2, none⟩ = some (.bool false) ∧ W'.cell? ⟨H, 3, none⟩ = some (.bool false) ∧ W'.cell? ⟨H, 4, none⟩ = some (.int .i64 0) ∧ W'.cell? ⟨H, 5, none⟩ = some (.int .u8 p.ttl) ∧ W'.cell? ⟨H, 6, none⟩ = some (.int .u8 p.proto) ∧ W'.cell? ⟨H, 7, none⟩ = some (.int .u32 p.src) ∧ W'.cell? ⟨H, 8, none⟩ = some (.int .u32 p.dst) ∧ W'.cell? ⟨H, 9, none⟩ = some (.slice (some ⟨gp, 0, none⟩) p.few.b.length cp) ∧ W'.cell? ⟨H2, 0, none⟩ = some (.slice (some ⟨g0, oo, none⟩) m2 d2))
                    (first | exact KS.out _ (below_drewT w9) | exact KS.out _ HQ.out)
                    (first
                      | (go_at_call 16; (with_reducible refine (XO1.out _ HQ.out).mono ?_); rintro e wm ⟨rfl, hB⟩; (have HQ := Lib.hid (below_to HQ.out hB HQ.out.size)); clear hB)
                      | (go_at_call 16; (with_reducible refine (XO2.out _ HQ.out).mono ?_); rintro e wm ⟨rfl, hB⟩; (have HQ := Lib.hid (below_to HQ.out hB HQ.out.size)); clear hB)
                      | (go_at_call 16; (with_reducible refine (XO1.out _ (below_drewT w9)).mono ?_); rintro e wm ⟨rfl, hB⟩; (have HQ := Lib.hid (below_to (below_drewT w9) hB (below_drewT w9).size)); clear hB)
                      | (go_at_call 16; (with_reducible refine (XO2.out _ (below_drewT w9)).mono ?_); rintro e wm ⟨rfl, hB⟩; (have HQ := Lib.hid (below_to (below_drewT w9) hB (below_drewT w9).size)); clear hB)
                    )
                  all_goals
                    clear KS XO1 XO2 heq
                    go_wp2_with fail
                    have h1 := Hm.out.1
                    have h2 := Hm.out.2.2.1
                    have hi := Hi0.out
                    have h5 := HSl.out
                    have h6 := L7.out
                    have h3 : l0.length - (j0 + 1) = m2 := by omega
                    have h4 : c0 - (j0 + 1) = d2 := by omega
                    refine ⟨⟨j0 + 1, j1, oo, o1, S7, ?_, by omega, by omega, ⟨fun _ => by omega, HOO.out.2⟩, F9.out.to XX.out HQ.out, ?_, H7.out, HH1.out.other K7.out, by omega⟩, ?_⟩
                    · simp
                      omega
                    · rw [h3, h4]
                      exact (HQ.out.block H2 (Array.getElem?_eq_some_iff.1 P9.out).1).trans P9.out
                    · simp [intOf]
                      omega
                · go_upto_region 28 with (first | (go_at_call 21; (with_reducible refine XT.out.mono ?_); rintro e w7 ⟨S7, o7, n7, b7, hTR, hV, hF7, hp7⟩; (have hkk := hTR.other (HF.out.un XX.out).1 (k := (q.as 1).key4)); (obtain ⟨rfl, rfl, ho, hH7, hl7, hk7⟩ := XS2.out _ _ _ _ hTR); (rw [if_neg hlast] at ho; subst ho); (obtain ⟨B6, d6, ev7, he7, hR7, hE7⟩ := hV); (obtain rfl : e = .returned (.tuple #[.agg #[.int .u8 noIp.tos, .int .u16 noIp.id, .bool noIp.df, .bool noIp.mf, .int .i64 noIp.off, .int .u8 noIp.ttl, .int .u8 noIp.proto, .int .u32 noIp.src, .int .u32 noIp.dst, .slice B6 noIp.b.length d6], .bool false, ev7]) := he7); (obtain rfl : ev7 = .nilIface := by (rcases hE7 with ⟨_, h⟩ | ⟨h, _⟩; exact h; exact absurd rfl h)); (have F7 := Lib.hid hF7); (have P7 := Lib.hid (hp7.trans HP2.out)); (have H7 := Lib.hid hH7); (have L7 := Lib.hid hl7); (have K7 := Lib.hid (hkk (by rw [hk7]; exact two_keys q p))); (have R7 := Lib.hid hR7); clear hTR hF7 hp7 hH7 hl7 hk7 hkk hE7 hR7) | (refine wpList_store_row rfl 42 (.tmp 18) (.tmp 100) rfl w7.heap.size #[.int .u8 noIp.tos, .int .u16 noIp.id, .bool noIp.df, .bool noIp.mf, .int .i64 noIp.off, .int .u8 noIp.ttl, .int .u8 noIp.proto, .int .u32 noIp.src, .int .u32 noIp.dst, .slice B6 noIp.b.length d6] rfl rfl 42 _ (heap_alloc_new w7 _) ipSize rfl (by simp [Value.oneCell']) ?_; rw [setRow_alloc]))
                  clear k0 k1 k2 k3 k4 k5 k6 k7 k8 k9 XT XS2
                  have B8 := Lib.hid ((Below.refl w7.heap.size w7).alloc (Nat.le_refl _) (.cells #[.int .u8 noIp.tos, .int .u16 noIp.id, .bool noIp.df, .bool noIp.mf, .int .i64 noIp.off, .int .u8 noIp.ttl, .int .u8 noIp.proto, .int .u32 noIp.src, .int .u32 noIp.dst, .slice B6 noIp.b.length d6] 42))
                  generalize w7.alloc (.cells #[.int .u8 noIp.tos, .int .u16 noIp.id, .bool noIp.df, .bool noIp.mf, .int .i64 noIp.off, .int .u8 noIp.ttl, .int .u8 noIp.proto, .int .u32 noIp.src, .int .u32 noIp.dst, .slice B6 noIp.b.length d6] 42) = w8 at B8 ⊢
                  have F8 := Lib.hid (F7.out.to XX.out B8.out)
                  have P8 := Lib.hid ((B8.out.block H2 (Array.getElem?_eq_some_iff.1 P7.out).1).trans P7.out)
                  have z8 : w8.cell? ⟨H2, 0, none⟩ = some (.slice (some ⟨g0, j0 * 10, none⟩) m0' d0) := by
                    rw [cell_of_row w8 H2 _ _ _ _ P8.out, ← Hm.out.1, ← Hm.out.2.2.1, ← HO.out]
                    rfl
                  have y8 : w8.frozen? ⟨H2, 0, none⟩ = false := by simp [World.frozen?, P8.out]
                  have u1 : (1 : Int) ≤ (m0' : Int) := by omega
                  have u2 : (m0' : Int) ≤ (d0 : Int) := by have h1 := Hm.out.1; have h2 := Hm.out.2.2.1; omega
                  have ud : ¬ d0 = 1 := by have h1 := Hm.out.1; have h2 := Hm.out.2.2.1; have h3 := hcl0; omega
                  go_upto_region 29 with fail
                  obtain ⟨m2, hm2⟩ : ∃ m, m0' - 1 = m := ⟨_, rfl⟩
                  rw [hm2]
                  obtain ⟨d2, hd2⟩ : ∃ m, d0 - 1 = m := ⟨_, rfl⟩
                  rw [hd2]
                  have F9 := Lib.hid (F8.out.set XX.out 0 (.slice (some ⟨g0, j0 * 10 + 10, none⟩) m2 d2))
                  have P9 : Hid ((w8.setCell ⟨H2, 0, none⟩ (.slice (some ⟨g0, j0 * 10 + 10, none⟩) m2 d2)).heap[H2]? = some (.cells #[.slice (some ⟨g0, j0 * 10 + 10, none⟩) m2 d2, .slice (some ⟨g1, o1, none⟩) (l1.length - j1) (c1 - j1)] t2 (0, 0))) := Lib.hid (by
                    have h := P8.out
                    unfold World.setCell
                    simp only [Array.getElem?_modify, if_true, h, Option.map_some]
                    rfl)
                  clear z8 y8 u1 u2 ud
                  generalize w8.setCell ⟨H2, 0, none⟩ (.slice (some ⟨g0, j0 * 10 + 10, none⟩) m2 d2) = w9 at F9 P9 ⊢
                  have z9 : w9.cell? ⟨H2, 0, none⟩ = some (.slice (some ⟨g0, j0 * 10 + 10, none⟩) m2 d2) := by
                    rw [cell_of_row w9 H2 _ _ _ _ P9.out]
                    rfl
                  have q9 : ((m2 : Int) == 0) = false := by have h1 := Hm.out.1; rw [beq_eq_false_iff_ne]; omega
                  have qi0 : i0 ≤ 4002 := by have h := Hi0.out; omega
                  go_quiet (fail)
                  go_wp2_with fail
                  have h1 := Hm.out.1
                  have h2 := Hm.out.2.2.1
                  have hi := Hi0.out
                  have h5 := HSl.out
                  have h6 := L7.out
                  have h3 : l0.length - (j0 + 1) = m2 := by omega
                  have h4 : c0 - (j0 + 1) = d2 := by omega
                  refine ⟨⟨j0 + 1, j1, j0 * 10 + 10, o1, S7, ?_, by omega, by omega, ⟨fun _ => by omega, HOO.out.2⟩, F9.out.to XX.out (drewB w9 _), ?_, H7.out, HH1.out.other K7.out, by omega⟩, ?_⟩
                  · simp
                    omega
                  · rw [h3, h4]
                    exact P9.out
                  · simp [intOf]
                    omega
              · go_upto_region 27 with fail
                have ho1 : o1 = j1 * 10 := HOO.out.2 (by have h := Hm.out.2.1; omega)
                have z1b : wc.cell? ⟨H2, 1, none⟩ = some (.slice (some ⟨g1, j1 * 10, none⟩) m1' d1) := ho1 ▸ z1
                clear z1
                have HO := Lib.hid ho1
                clear ho1
                obtain ⟨y, hy⟩ : ∃ y, l1[j1]? = some y := ⟨_, List.getElem?_eq_getElem (by have h := Hm.out.2.1; omega)⟩
                have hX : Pv.At wc g1 (j1 * 10) y := by
                  obtain ⟨_, e, h⟩ := HP1.out.at hy
                  cases e
                  rw [Nat.zero_add] at h
                  exact HF.out.at h (by have h1 := HGK1.out.1; have h2 := HN1.out; omega)
                have hyl : y ∈ l1 := List.mem_of_getElem? hy
                have hyp : (splitL (q.as 1) mtu)[j1]? = some y.p := by rw [← HLM1.out, List.getElem?_map, hy]; rfl
                have hin := splitL_in (Ip.as_in HFq.out (i := 1) (by omega)) (splitC_plain hmt.1) (x := y.p) (List.mem_of_getElem? hyp)
                have hrd5 := own_rd (HP1.out.own y hyl)
                have hblk : ∀ a, y.B = some a → n1 ≤ a.block ∧ a.block < W5.heap.size := fun a ha => (HP1.out.own y hyl).lt a.block (by show Value.ownBlock (.slice y.B y.p.b.length y.c) = _; rw [ha]; rfl)
                have hcap : y.c ≤ 9223372036854775807 := by
                  obtain ⟨A', c', e, _, h3, _⟩ := own_shape (HP1.out.own y hyl)
                  have h4 : Value.slice y.B y.p.b.length y.c = .slice A' y.p.b.length c' := e
                  simp only [Value.slice.injEq] at h4
                  omega
                have XT := Lib.hid (HF.out.take XX.out (now := 1) hin.1 (Nat.le_trans hin.2 (Ip.as_len q 1)) (by unfold UW; omega) hcap (HF.out.rd hrd5 (fun _ a ha => by have h1 := (hblk a ha).1; have h2 := HN1.out; omega)) (fun _ a ha => (hblk a ha).2))
                have XS2 := Lib.hid (fun S' o c b (hT : TakeR S y.p 1 S' o c b) => two_step rfl rfl (Ip.plain_bad _) (splitL_one (q.as 1) hmt.1) (plain_tiles (p := { q with id := 1 }) hmt.1) (HF.out.un XX.out).1 (by rw [HSl.out]; split <;> split <;> omega) hyp HH1.out hT)
                obtain ⟨k0, k1, k2, k3, k4, k5, k6, k7, k8, k9⟩ := hX
                clear hy hyl hin hrd5 hblk hcap
                have hlen : (splitL (q.as 1) mtu).length = l1.length := by rw [← HLM1.out, List.length_map]
                by_cases hlast : j1 + 1 = (splitL (q.as 1) mtu).length
                · go_upto_region 28 with (first | (go_at_call 21; (with_reducible refine XT.out.mono ?_); rintro e w7 ⟨S7, o7, n7, b7, hTR, hV, hF7, hp7⟩; (have hkk := hTR.other (HF.out.un XX.out).1 (k := (p.as 0).key4)); (obtain ⟨rfl, rfl, ho, hH7, hl7, hk7⟩ := XS2.out _ _ _ _ hTR); (rw [if_pos hlast] at ho; subst ho); (obtain ⟨B6, d6, ev7, he7, hR7, hE7⟩ := hV); (obtain rfl : e = .returned (.tuple #[.agg #[.int .u8 q.tos, .int .u16 1, .bool false, .bool false, .int .i64 0, .int .u8 q.ttl, .int .u8 q.proto, .int .u32 q.src, .int .u32 q.dst, .slice B6 q.few.b.length d6], .bool true, ev7]) := he7); (obtain rfl : ev7 = .nilIface := by (rcases hE7 with ⟨_, h⟩ | ⟨h, _⟩; exact h; exact absurd rfl h)); (have F7 := Lib.hid hF7); (have P7 := Lib.hid (hp7.trans HP2.out)); (have H7 := Lib.hid hH7); (have L7 := Lib.hid hl7); (have K7 := Lib.hid (hkk (by rw [hk7]; exact (two_keys q p).symm))); (have R7 := Lib.hid hR7); clear hTR hF7 hp7 hH7 hl7 hk7 hkk hE7 hR7) | (refine wpList_store_row rfl 42 (.tmp 18) (.tmp 100) rfl w7.heap.size #[.int .u8 q.tos, .int .u16 1, .bool false, .bool false, .int .i64 0, .int .u8 q.ttl, .int .u8 q.proto, .int .u32 q.src, .int .u32 q.dst, .slice B6 q.few.b.length d6] rfl rfl 42 _ (heap_alloc_new w7 _) ipSize rfl (by simp [Value.oneCell']) ?_; rw [setRow_alloc]))
                  clear k0 k1 k2 k3 k4 k5 k6 k7 k8 k9 XT XS2
                  have B8 := Lib.hid ((Below.refl w7.heap.size w7).alloc (Nat.le_refl _) (.cells #[.int .u8 q.tos, .int .u16 1, .bool false, .bool false, .int .i64 0, .int .u8 q.ttl, .int .u8 q.proto, .int .u32 q.src, .int .u32 q.dst, .slice B6 q.few.b.length d6] 42))
                  have M8 : Hid (IpAt (w7.alloc (.cells #[.int .u8 q.tos, .int .u16 1, .bool false, .bool false, .int .i64 0, .int .u8 q.ttl, .int .u8 q.proto, .int .u32 q.src, .int .u32 q.dst, .slice B6 q.few.b.length d6] 42)) w7.heap.size (q.as 1) (.slice B6 q.few.b.length d6)) := Lib.hid (heap_alloc_new w7 _)
                  have hg8 : W5.heap.size ≤ w7.heap.size := F7.out.size
                  generalize w7.alloc (.cells #[.int .u8 q.tos, .int .u16 1, .bool false, .bool false, .int .i64 0, .int .u8 q.ttl, .int .u8 q.proto, .int .u32 q.src, .int .u32 q.dst, .slice B6 q.few.b.length d6] 42) = w8 at B8 M8 ⊢
                  have F8 := Lib.hid (F7.out.to XX.out B8.out)
                  have P8 := Lib.hid ((B8.out.block H2 (Array.getElem?_eq_some_iff.1 P7.out).1).trans P7.out)
                  have R8 : Hid (Rd w8 (.slice B6 q.few.b.length d6) q.few.b) := Lib.hid (R7.out.below B8.out)
                  generalize w7.heap.size = G8 at M8 hg8 ⊢
                  have HG8 := Lib.hid hg8
                  clear hg8
                  have z8 : w8.cell? ⟨H2, 1, none⟩ = some (.slice (some ⟨g1, j1 * 10, none⟩) m1' d1) := by
                    rw [cell_of_row w8 H2 _ _ _ _ P8.out, ← Hm.out.2.1, ← Hm.out.2.2.2, ← HO.out]
                    rfl
                  have y8 : w8.frozen? ⟨H2, 1, none⟩ = false := by simp [World.frozen?, P8.out]
                  have u1 : (1 : Int) ≤ (m1' : Int) := by omega
                  have u2 : (m1' : Int) ≤ (d1 : Int) := by have h1 := Hm.out.2.1; have h2 := Hm.out.2.2.2; omega
                  go_upto_region 29 with fail
                  obtain ⟨m2, hm2⟩ : ∃ m, m1' - 1 = m := ⟨_, rfl⟩
                  rw [hm2]
                  obtain ⟨d2, hd2⟩ : ∃ m, d1 - 1 = m := ⟨_, rfl⟩
                  rw [hd2]
                  obtain ⟨oo, hoo⟩ : ∃ oo, (if d1 = 1 then some (⟨g1, j1 * 10, none⟩ : Addr) else some ⟨g1, j1 * 10 + 10, none⟩) = some ⟨g1, oo, none⟩ := by
                    split
                    · exact ⟨_, rfl⟩
                    · exact ⟨_, rfl⟩
                  rw [hoo]
                  have hlt2 : H2 < W5.heap.size := (Array.getElem?_eq_some_iff.1 HS.out.parts).1
                  have hneG : G8 ≠ H2 := by have h1 := HG8.out; omega
                  have F9 := Lib.hid (F8.out.set XX.out 1 (.slice (some ⟨g1, oo, none⟩) m2 d2))
                  have P9 : Hid ((w8.setCell ⟨H2, 1, none⟩ (.slice (some ⟨g1, oo, none⟩) m2 d2)).heap[H2]? = some (.cells #[.slice (some ⟨g0, o0, none⟩) (l0.length - j0) (c0 - j0), .slice (some ⟨g1, oo, none⟩) m2 d2] t2 (0, 0))) := Lib.hid (by
                    have h := P8.out
                    unfold World.setCell
                    simp only [Array.getElem?_modify, if_true, h, Option.map_some]
                    rfl)
                  have M9 : Hid (IpAt (w8.setCell ⟨H2, 1, none⟩ (.slice (some ⟨g1, oo, none⟩) m2 d2)) G8 (q.as 1) (.slice B6 q.few.b.length d6)) := Lib.hid ((Below.heap_setCell _ _ _ _ hneG).trans M8.out)
                  have R9 : Hid (Rd (w8.setCell ⟨H2, 1, none⟩ (.slice (some ⟨g1, oo, none⟩) m2 d2)) (.slice B6 q.few.b.length d6) q.few.b) := Lib.hid (rd_setA R8.out (rd_not R8.out P8.out) _ _)
                  clear z8 y8 u1 u2 hneG hoo F8 P8 M8 R8 B8 F7 P7 R7
                  generalize w8.setCell ⟨H2, 1, none⟩ (.slice (some ⟨g1, oo, none⟩) m2 d2) = w9 at F9 P9 M9 R9 ⊢
                  have z9 : w9.cell? ⟨H2, 1, none⟩ = some (.slice (some ⟨g1, oo, none⟩) m2 d2) := by
                    rw [cell_of_row w9 H2 _ _ _ _ P9.out]
                    rfl
                  have hown9 := (F9.out.old H (Array.getElem?_eq_some_iff.1 HS.out.own).1 HN2.out).trans HS.out.own
                  have hO9 : Rd w9 (.slice (some ⟨gq, 0, none⟩) q.few.b.length cq) q.few.b := F9.out.rd HS.out.rq (fun hb a ha => by cases ha; exact (HS.out.nq hb).2)
                  have hxin := Ip.as_in HFq.out (i := 1) (by omega)
                  have KS : Hid (∀ W', Below w9.heap.size w9 W' → (fun W' : World => W'.cell? ⟨G8, 0, none⟩ = some (.int .u8 q.tos) ∧ W'.cell? ⟨G8, 1, none⟩ = some (.int .u16 1) ∧ W'.cell? ⟨G8, 2, none⟩ = some (.bool false) ∧ W'.cell? ⟨G8, 3, none⟩ = some (.bool false) ∧ W'.cell? ⟨G8, 4, none⟩ = some (.int .i64 0) ∧ W'.cell? ⟨G8, 5, none⟩ = some (.int .u8 q.ttl) ∧ W'.cell? ⟨G8, 6, none⟩ = some (.int .u8 q.proto) ∧ W'.cell? ⟨G8, 7, none⟩ = some (.int .u32 q.src) ∧ W'.cell? ⟨G8, 8, none⟩ = some (.int .u32 q.dst) ∧ W'.cell? ⟨G8, 9, none⟩ = some (.slice B6 q.few.b.length d6) ∧ W'.cell? ⟨H, 10, none⟩ = some (.int .u8 q.tos) ∧ W'.cell? ⟨H, 11, none⟩ = some (.int .u16 1) ∧ W'.cell? ⟨H, 12, none⟩ = some (.bool false) ∧ W'.cell? ⟨H, 13, none⟩ = some (.bool false) ∧ W'.cell? ⟨H, 14, none⟩ = some (.int .i64 0) ∧ W'.cell? ⟨H, 15, none⟩ = some (.int .u8 q.ttl) ∧ W'.cell? ⟨H, 16, none⟩ = some (.int .u8 q.proto) ∧ W'.cell? ⟨H, 17, none⟩ = some (.int .u32 q.src) ∧ W'.cell? ⟨H, 18, none⟩ = some (.int .u32 q.dst) ∧ W'.cell? ⟨H, 19, none⟩ = some (.slice (some ⟨gq, 0, none⟩) q.few.b.length cq) ∧ W'.cell? ⟨H2, 1, none⟩ = some (.slice (some ⟨g1, oo, none⟩) m2 d2)) W') := Lib.hid (fun W' hW => by
                    have a := IpAt.cells (p := q.as 1) (bv := .slice B6 q.few.b.length d6) ((hW.block G8 (Array.getElem?_eq_some_iff.1 M9.out).1).trans M9.out)
                    have b := (hW.block H (Array.getElem?_eq_some_iff.1 hown9).1).trans hown9
                    have z := (hW.cell (World.block_lt_of_cell? w9 _ z9)).trans z9
                    refine ⟨a.1, a.2.1, a.2.2.1, a.2.2.2.1, a.2.2.2.2.1, a.2.2.2.2.2.1, a.2.2.2.2.2.2.1, a.2.2.2.2.2.2.2.1, a.2.2.2.2.2.2.2.2.1, a.2.2.2.2.2.2.2.2.2, ?_, ?_, ?_, ?_, ?_, ?_, ?_, ?_, ?_, ?_, z⟩ <;> (rw [cell_of_row W' H _ _ _ _ b]; rfl))
                  have XO1 : Hid (∀ W, Below w9.heap.size w9 W → Calls Tryd.prog 16 #[.agg #[.int .u8 q.tos, .int .u16 1, .bool false, .bool false, .int .i64 0, .int .u8 q.ttl, .int .u8 q.proto, .int .u32 q.src, .int .u32 q.dst, .slice B6 q.few.b.length d6]] W fun e w' => e = .returned (.agg #[.int .u32 q.tos, .int .u32 1, .bool false, .bool false, .int .i64 0, .int .u32 q.ttl, .int .u32 q.proto, .int .u32 q.src, .int .u32 q.dst, .string (txt q.few.b)]) ∧ Below W.heap.size W w') := Lib.hid (fun W hW => vOf_lit (q.as 1) hxin B6 d6 W (R9.out.below hW))
                  have XO2 : Hid (∀ W, Below w9.heap.size w9 W → Calls Tryd.prog 16 #[.agg #[.int .u8 q.tos, .int .u16 1, .bool false, .bool false, .int .i64 0, .int .u8 q.ttl, .int .u8 q.proto, .int .u32 q.src, .int .u32 q.dst, .slice (some ⟨gq, 0, none⟩) q.few.b.length cq]] W fun e w' => e = .returned (.agg #[.int .u32 q.tos, .int .u32 1, .bool false, .bool false, .int .i64 0, .int .u32 q.ttl, .int .u32 q.proto, .int .u32 q.src, .int .u32 q.dst, .string (txt q.few.b)]) ∧ Below W.heap.size W w') := Lib.hid (fun W hW => vOf_lit (q.as 1) hxin (some ⟨gq, 0, none⟩) cq W (hO9.below hW))
                  have heq0 := fun W => refIp_eqB (q.as 1) (q.as 1) W
                  simp only [ipB_same] at heq0
                  have heq : ∀ W, (Op.equalIn 10000 45 (.agg #[.int .u32 q.tos, .int .u32 1, .bool false, .bool false, .int .i64 0, .int .u32 q.ttl, .int .u32 q.proto, .int .u32 q.src, .int .u32 q.dst, .string (txt q.few.b)]) (.agg #[.int .u32 q.tos, .int .u32 1, .bool false, .bool false, .int .i64 0, .int .u32 q.ttl, .int .u32 q.proto, .int .u32 q.src, .int .u32 q.dst, .string (txt q.few.b)])).run Tryd.prog W = .ok true W := heq0
                  have q9 : ((m2 : Int) == 0) = true := by have h1 := Hm.out.2.1; rw [beq_iff_eq]; omega
                  have qi0 : i0 ≤ 4002 := by have h := Hi0.out; omega
                  clear hown9 hO9 hxin heq0 M9 R9 z9 hlt2
                  as_aux_lemma =>
                  go_region_held_law (fun W' : World => W'.cell? ⟨G8, 0, none⟩ = some (.int .u8 q.tos) ∧ W'.cell? ⟨G8, 1, none⟩ = some (.int .u16 1) ∧ W'.cell? ⟨G8, 2, none⟩ = some (.bool false) ∧ W'.cell? ⟨G8, 3, none⟩ = some (.bool false) ∧ W'.cell? ⟨G8, 4, none⟩ = some (.int .i64 0) ∧ W'.cell? ⟨G8, 5, none⟩ = some (.int .u8 q.ttl) ∧ W'.cell? ⟨G8, 6, none⟩ = some (.int .u8 q.proto) ∧ W'.cell? ⟨G8, 7, none⟩ = some (.int .u32 q.src) ∧ W'.cell? ⟨G8, 8, none⟩ = some (.int .u32 q.dst) ∧ W'.cell? ⟨G8, 9, none⟩ = some (.slice B6 q.few.b.length d6) ∧ W'.cell? ⟨H, 10, none⟩ = some (.int .u8 q.tos) ∧ W'.cell? ⟨H, 11, none⟩ = some (.int .u16 1) ∧ W'.cell? ⟨H, 12, none⟩ = some (.bool false) ∧ W'.cell? ⟨H, 13, none⟩ = some (.bool false) ∧ W'.cell? ⟨H, 14, none⟩ = some (.int .i64 0) ∧ W'.cell? ⟨H, 15, none⟩ = some (.int .u8 q.ttl) ∧ W'.cell? ⟨H, 16, none⟩ = some (.int .u8 q.proto) ∧ W'.cell? ⟨H, 17, none⟩ = some (.int .u32 q.src) ∧ W'.cell? ⟨H, 18, none⟩ = some (.int .u32 q.dst) ∧ W'.cell? ⟨H, 19, none⟩ = some (.slice (some ⟨gq, 0, none⟩) q.few.b.length cq) ∧ W'.cell? ⟨H2, 1, none⟩ = some (.slice (some ⟨g1, oo, none⟩) m2 d2))
                    (first | exact KS.out _ (below_drewT w9) | exact KS.out _ HQ.out)
                    (first
                      | (go_at_call 16; (with_reducible refine (XO1.out _ HQ.out).mono ?_); rintro e wm ⟨rfl, hB⟩; (have HQ := Lib.hid (below_to HQ.out hB HQ.out.size)); clear hB)
                      | (go_at_call 16; (with_reducible refine (XO2.out _ HQ.out).mono ?_); rintro e wm ⟨rfl, hB⟩; (have HQ := Lib.hid (below_to HQ.out hB HQ.out.size)); clear hB)
                      | (go_at_call 16; (with_reducible refine (XO1.out _ (below_drewT w9)).mono ?_); rintro e wm ⟨rfl, hB⟩; (have HQ := Lib.hid (below_to (below_drewT w9) hB (below_drewT w9).size)); clear hB)
                      | (go_at_call 16; (with_reducible refine (XO2.out _ (below_drewT w9)).mono ?_); rintro e wm ⟨rfl, hB⟩; (have HQ := Lib.hid (below_to (below_drewT w9) hB (below_drewT w9).size)); clear hB)
                    )
                  all_goals
                    clear KS XO1 XO2 heq
                    go_wp2_with fail
                    have h1 := Hm.out.2.1
                    have h2 := Hm.out.2.2.2
                    have hi := Hi0.out
                    have h5 := HSl.out
                    have h6 := L7.out
                    have h3 : l1.length - (j1 + 1) = m2 := by omega
                    have h4 : c1 - (j1 + 1) = d2 := by omega
                    refine ⟨⟨j0, j1 + 1, o0, oo, S7, ?_, by omega, by omega, ⟨HOO.out.1, fun _ => by omega⟩, F9.out.to XX.out HQ.out, ?_, HH0.out.other K7.out, H7.out, by omega⟩, ?_⟩
                    · simp
                      omega
                    · rw [h3, h4]
                      exact (HQ.out.block H2 (Array.getElem?_eq_some_iff.1 P9.out).1).trans P9.out
                    · simp [intOf]
                      omega
                · go_upto_region 28 with (first | (go_at_call 21; (with_reducible refine XT.out.mono ?_); rintro e w7 ⟨S7, o7, n7, b7, hTR, hV, hF7, hp7⟩; (have hkk := hTR.other (HF.out.un XX.out).1 (k := (p.as 0).key4)); (obtain ⟨rfl, rfl, ho, hH7, hl7, hk7⟩ := XS2.out _ _ _ _ hTR); (rw [if_neg hlast] at ho; subst ho); (obtain ⟨B6, d6, ev7, he7, hR7, hE7⟩ := hV); (obtain rfl : e = .returned (.tuple #[.agg #[.int .u8 noIp.tos, .int .u16 noIp.id, .bool noIp.df, .bool noIp.mf, .int .i64 noIp.off, .int .u8 noIp.ttl, .int .u8 noIp.proto, .int .u32 noIp.src, .int .u32 noIp.dst, .slice B6 noIp.b.length d6], .bool false, ev7]) := he7); (obtain rfl : ev7 = .nilIface := by (rcases hE7 with ⟨_, h⟩ | ⟨h, _⟩; exact h; exact absurd rfl h)); (have F7 := Lib.hid hF7); (have P7 := Lib.hid (hp7.trans HP2.out)); (have H7 := Lib.hid hH7); (have L7 := Lib.hid hl7); (have K7 := Lib.hid (hkk (by rw [hk7]; exact (two_keys q p).symm))); (have R7 := Lib.hid hR7); clear hTR hF7 hp7 hH7 hl7 hk7 hkk hE7 hR7) | (refine wpList_store_row rfl 42 (.tmp 18) (.tmp 100) rfl w7.heap.size #[.int .u8 noIp.tos, .int .u16 noIp.id, .bool noIp.df, .bool noIp.mf, .int .i64 noIp.off, .int .u8 noIp.ttl, .int .u8 noIp.proto, .int .u32 noIp.src, .int .u32 noIp.dst, .slice B6 noIp.b.length d6] rfl rfl 42 _ (heap_alloc_new w7 _) ipSize rfl (by simp [Value.oneCell']) ?_; rw [setRow_alloc]))
                  clear k0 k1 k2 k3 k4 k5 k6 k7 k8 k9 XT XS2
                  have B8 := Lib.hid ((Below.refl w7.heap.size w7).alloc (Nat.le_refl _) (.cells #[.int .u8 noIp.tos, .int .u16 noIp.id, .bool noIp.df, .bool noIp.mf, .int .i64 noIp.off, .int .u8 noIp.ttl, .int .u8 noIp.proto, .int .u32 noIp.src, .int .u32 noIp.dst, .slice B6 noIp.b.length d6] 42))
                  generalize w7.alloc (.cells #[.int .u8 noIp.tos, .int .u16 noIp.id, .bool noIp.df, .bool noIp.mf, .int .i64 noIp.off, .int .u8 noIp.ttl, .int .u8 noIp.proto, .int .u32 noIp.src, .int .u32 noIp.dst, .slice B6 noIp.b.length d6] 42) = w8 at B8 ⊢
                  have F8 := Lib.hid (F7.out.to XX.out B8.out)
                  have P8 := Lib.hid ((B8.out.block H2 (Array.getElem?_eq_some_iff.1 P7.out).1).trans P7.out)
                  have z8 : w8.cell? ⟨H2, 1, none⟩ = some (.slice (some ⟨g1, j1 * 10, none⟩) m1' d1) := by
                    rw [cell_of_row w8 H2 _ _ _ _ P8.out, ← Hm.out.2.1, ← Hm.out.2.2.2, ← HO.out]
                    rfl
                  have y8 : w8.frozen? ⟨H2, 1, none⟩ = false := by simp [World.frozen?, P8.out]
                  have u1 : (1 : Int) ≤ (m1' : Int) := by omega
                  have u2 : (m1' : Int) ≤ (d1 : Int) := by have h1 := Hm.out.2.1; have h2 := Hm.out.2.2.2; omega
                  have ud : ¬ d1 = 1 := by have h1 := Hm.out.2.1; have h2 := Hm.out.2.2.2; have h3 := hcl1; omega
                  go_upto_region 29 with fail
                  obtain ⟨m2, hm2⟩ : ∃ m, m1' - 1 = m := ⟨_, rfl⟩
                  rw [hm2]
                  obtain ⟨d2, hd2⟩ : ∃ m, d1 - 1 = m := ⟨_, rfl⟩
                  rw [hd2]
                  have F9 := Lib.hid (F8.out.set XX.out 1 (.slice (some ⟨g1, j1 * 10 + 10, none⟩) m2 d2))
                  have P9 : Hid ((w8.setCell ⟨H2, 1, none⟩ (.slice (some ⟨g1, j1 * 10 + 10, none⟩) m2 d2)).heap[H2]? = some (.cells #[.slice (some ⟨g0, o0, none⟩) (l0.length - j0) (c0 - j0), .slice (some ⟨g1, j1 * 10 + 10, none⟩) m2 d2] t2 (0, 0))) := Lib.hid (by
                    have h := P8.out
                    unfold World.setCell
                    simp only [Array.getElem?_modify, if_true, h, Option.map_some]
                    rfl)
                  clear z8 y8 u1 u2 ud
                  generalize w8.setCell ⟨H2, 1, none⟩ (.slice (some ⟨g1, j1 * 10 + 10, none⟩) m2 d2) = w9 at F9 P9 ⊢
                  have z9 : w9.cell? ⟨H2, 1, none⟩ = some (.slice (some ⟨g1, j1 * 10 + 10, none⟩) m2 d2) := by
                    rw [cell_of_row w9 H2 _ _ _ _ P9.out]
                    rfl
                  have q9 : ((m2 : Int) == 0) = false := by have h1 := Hm.out.2.1; rw [beq_eq_false_iff_ne]; omega
                  have qi0 : i0 ≤ 4002 := by have h := Hi0.out; omega
                  go_quiet (fail)
                  go_wp2_with fail
                  have h1 := Hm.out.2.1
                  have h2 := Hm.out.2.2.2
                  have hi := Hi0.out
                  have h5 := HSl.out
                  have h6 := L7.out
                  have h3 : l1.length - (j1 + 1) = m2 := by omega
                  have h4 : c1 - (j1 + 1) = d2 := by omega
                  refine ⟨⟨j0, j1 + 1, o0, j1 * 10 + 10, S7, ?_, by omega, by omega, ⟨HOO.out.1, fun _ => by omega⟩, F9.out.to XX.out (drewB w9 _), ?_, HH0.out.other K7.out, H7.out, by omega⟩, ?_⟩
                  · simp
                    omega
                  · rw [h3, h4]
                    exact P9.out
                  · simp [intOf]
                    omega
          · have q1 : decide (0 < (m0' : Int) + (m1' : Int)) = false := decide_eq_false (by omega)
            have e0 : j0 = l0.length := by have h := Hm.out.1; omega
            have e1 : j1 = l1.length := by have h := Hm.out.2.1; omega
            have hs0 : S = [] := List.length_eq_zero_iff.1 (by
              have a0 : (splitL (p.as 0) mtu).length = l0.length := by rw [← HLM0.out, List.length_map]
              have a1 : (splitL (q.as 1) mtu).length = l1.length := by rw [← HLM1.out, List.length_map]
              rw [HSl.out, e0, e1, ← a0, ← a1, seenJ_all, seenJ_all]
              rfl)
            subst hs0
            have XL := Lib.hid (HF.out.len XX.out)
            go_wp2_with (go_at_call 22; (with_reducible refine XL.out.mono ?_); rintro e w9 ⟨rfl, hw9⟩; subst w9)
            go_ret
            exact ⟨rfl, HF.out.below (by rw [HGe.out]; exact HS.out.base) (by rw [HGe.out]; exact HG2.out)⟩
end Go.Proofs.YtdmogppkambgaaaDoor
namespace Go.Proofs.YtdmogppkambgaaaDoor
open Go Go.ChangeShapes Go.WideShapes Go.RowKit

/-- The contract. -/
def FragTwoDoes : Prop := ∀ (p0 : Ip) (A0 : Option Addr) (c0 : Nat) (p1 : Ip) (A1 : Option Addr) (c1 : Nat) (n2 : Int) (A3 : Option Addr) (M3 c3 : Nat) (w : World), Hdl w → p0.Fit → Rd w (.slice A0 p0.b.length c0) p0.b → c0 ≤ 9223372036854775807 → p1.Fit → Rd w (.slice A1 p1.b.length c1) p1.b → c1 ≤ 9223372036854775807 → -9223372036854775808 ≤ n2 → n2 ≤ 9223372036854775807 → BoolsAt2 w A3 M3 → M3 ≤ c3 → c3 ≤ 9223372036854775807 → Calls Tryd.prog 6 #[p0.val (.slice A0 p0.b.length c0), p1.val (.slice A1 p1.b.length c1), .int .i64 n2, .slice A3 M3 c3] w fun e w' => e = .returned (.bool true) ∧ Below w.heap.size w w'

set_option maxRecDepth 100000 in
theorem fragTwo_lifted (hc : FragTwoDoes) (os : Os) (started : os.Started) (H : Type) (enc : TypeId × Value → H) :
    ReturnsInHanded {} Tryd.checked os 6 .any (fun w args => (Rows.fragTwoSpec.pre enc Tryd.prog Tryd.f6 [] false w args ∧ laidMetH Tryd.prog laidList w) ∧ sizedMet enc Tryd.prog Tryd.f6 (OpenSpec.ofChange Rows.fragTwoSpec) false w args)
      (Rows.fragTwoSpec.post enc Tryd.prog Tryd.f6 false true false false) := by
  refine returnsInHanded_of_change_and (C := Tryd.checked) (X := fun w _ => laidMetH Tryd.prog laidList w) (fun _ _ _ hh h => h.of_heap hh) ownGodebug started (by kernel_rfl) Tryd.func6
    (ChangeSpec.witness_at (enc := enc) (C := Tryd.checked) (os := os) (X := fun w _ => laidMetH Tryd.prog laidList w) false (laidWorld os) #[.agg #[.int .u8 0, .int .u16 0, .bool false, .bool false, .int .i64 0, .int .u8 0, .int .u8 0, .int .u32 0, .int .u32 0, .slice none 0 0], .agg #[.int .u8 0, .int .u16 0, .bool false, .bool false, .int .i64 0, .int .u8 0, .int .u8 0, .int .u32 0, .int .u32 0, .slice none 0 0], .int .i64 0, .slice none 0 0] 8 rfl (by kernel_rfl) (by kernel_rfl) (by kernel_rfl) (by kernel_rfl) (by kernel_rfl) (laidWorld_met os _)) ?_
  intro W base args ds gs before hval0 hW _ _ hL _
  have hval : ∀ (j : Nat) t v, Tryd.f6.params[j]? = some t → args[j]? = some v → Value.okWide Tryd.prog W .any base t v := hval0
  have hW' := hW
  obtain ⟨p, q, hA0, hV0, rfl, hfz, hnd⟩ := hW
  have hA : DataW.TrodAll enc Tryd.prog W 0 (fun _ => true) true Tryd.f6.params.toList args.toList ds p := hA0
  have hV : DataW.TrodVars enc Tryd.prog W (fun _ => true) [] gs q := hV0
  rw [Tryd.params6] at hA hval
  obtain ⟨v0, vs0, d0, ds0, p0, q0, hargs, rfl, rfl, h0, r0⟩ := trodAll_cons hA
  obtain ⟨v1, vs1, d1, ds1, p1, q1, rfl, rfl, rfl, h1, r1⟩ := trodAll_cons r0
  obtain ⟨v2, vs2, d2, ds2, p2, q2, rfl, rfl, rfl, h2, r2⟩ := trodAll_cons r1
  obtain ⟨v3, vs3, d3, ds3, p3, q3, rfl, rfl, rfl, h3, r3⟩ := trodAll_cons r2
  obtain ⟨rfl, rfl, rfl⟩ := trodAll_nil r3
  obtain rfl : args = #[v0, v1, v2, v3] := by cases args; simpa using hargs
  obtain ⟨rfl, rfl⟩ := trodVars_none hV
  obtain ⟨p0, A0, c0, rfl, b0, e0, a0⟩ := open_ip (hval 0 42 v0 rfl rfl) h0
  obtain ⟨p1, A1, c1, rfl, b1, e1, a1⟩ := open_ip (hval 1 42 v1 rfl rfl) h1
  obtain ⟨n2, rfl, rfl, rfl, w2⟩ := open_int Tryd.underlying3 (hval 2 3 v2 rfl rfl) h2
  obtain ⟨A3, M3, c3, rfl, a3, b3, e3⟩ := open_bools (hval 3 56 v3 rfl rfl) h3
  refine (hc p0 A0 c0 p1 A1 c1 n2 A3 M3 c3 W (hdl_of_laid hL) a0 e0 b0 a1 e1 b1 (i64_wf w2).1 (i64_wf w2).2 e3 a3 b3).mono fun e W' ⟨he, hb⟩ => ?_
  subst he
  exact ⟨_, rfl, law_post rfl rfl rfl (by rw [Tryd.params6]; intro t ht; simp at ht; (first | (rcases ht with rfl | rfl | rfl | rfl) | (rcases ht with rfl | rfl | rfl)) <;> (try subst ht) <;> exact ⟨by kernel_rfl, by rw [typesSize]; decide⟩) hW' hb⟩
theorem fragTwo_row (hc : FragTwoDoes) : Rows.FragTwoSaid :=
  OpenClaim.holds_of_wide 6 Tryd.f6 rfl rfl rfl rfl rfl rfl rfl ⟨rfl, rfl, rfl, rfl, rfl⟩ rfl rfl rfl rfl rfl (by kernel_rfl) Tryd.func6 (by kernel_rfl)
    (of_decide_eq_true (by kernel_rfl)) (by unfold Func.isWrapper; rw [if_neg (of_decide_eq_false (by kernel_rfl))]; exact ⟨rfl, rfl⟩)
    (fun os started H enc _ => fragTwo_lifted hc os started H enc)
theorem fragTwo_card (hrow : Rows.FragTwoSaid) : Rows.FragTwoCardSaid :=
  Claim7.holds_tied_plain_at .later [] [.handle] true _ true
    hrow (fun _ h => by cases h) (by kernel_rfl) (fun _ h => by cases h) fragTwo_row_tie rfl ⟨rfl, rfl⟩ (by kernel_rfl) rfl
    (fun f fn hf hfn => by
      obtain rfl : f = 6 := Option.some.inj ((show Tryd.prog.funcNamed "underpass/underpasslaw10.FragTwo" = some 6 by kernel_rfl).symm.trans hf) |>.symm
      obtain rfl : fn = Tryd.f6 := (Option.some.inj (Tryd.func6.symm.trans hfn)).symm
      exact ⟨by kernel_rfl, fun j t ht => by
        rw [Tryd.params6] at ht
        rcases j with _ | _ | _ | _ | j
        · have h3 : t = 42 := by simpa using ht.symm
          subst h3
          exact (show Tryd.prog.wantsStandIn 42 = false by kernel_rfl)
        · have h3 : t = 42 := by simpa using ht.symm
          subst h3
          exact (show Tryd.prog.wantsStandIn 42 = false by kernel_rfl)
        · have h3 : t = 3 := by simpa using ht.symm
          subst h3
          exact (show Tryd.prog.wantsStandIn 3 = false by kernel_rfl)
        · have h3 : t = 56 := by simpa using ht.symm
          subst h3
          exact (show Tryd.prog.wantsStandIn 56 = false by kernel_rfl)
        · simp at ht⟩)
    (by kernel_rfl)
end Go.Proofs.YtdmogppkambgaaaDoor
namespace Go.Proofs.YtdmogppkambgaaaDoor
theorem fragTwo_any : FragTwoDoes := fun p A c q B d m T M k w hg hf hr hc hf2 hr2 hc2 _ _ hT hMk hk => fragTwo_of frag_ok split_ok fshown_any p q A B c d m T M k w hg hf hc hr hf2 hc2 hr2 hMk hk hT
theorem fragTwo_holds : Rows.FragTwoCardSaid := fragTwo_card (fragTwo_row fragTwo_any)
end Go.Proofs.YtdmogppkambgaaaDoor
