/-
  What is proved: numbered packets in memory: written, told; the numbers told; between two steps of CacheOnce.
  Conditions: none.
-/
import Derived.Test.YtfeipeninmclkaaCaOnceL
import Derived.Test.YtfeipeninmclkaaCaTwo
namespace Go.Proofs.Ytfeipeninmclkaa
open Go.RowKit

theorem own_of {w : World} {A : Option Addr} {M : Nat} (h : StepsAt w A M) : ∃ own : Nat → Int, ∀ n, n < M → ∃ (g o : Nat), A = some ⟨g, o, none⟩ ∧ U32 (own n) ∧ w.cell? ⟨g, o + n * 10 + 1, none⟩ = some (.int .u32 (own n)) := by
  have h' : ∀ n, ∃ x : Int, n < M → ∃ (g o : Nat), A = some ⟨g, o, none⟩ ∧ U32 x ∧ w.cell? ⟨g, o + n * 10 + 1, none⟩ = some (.int .u32 x) := fun n => by
    by_cases hn : n < M
    · obtain ⟨g, o, kd, ip, m, bs, b, B, c, hA, _, hip, _, _, _, _, h1, _⟩ := h.get hn
      exact ⟨ip, fun _ => ⟨g, o, hA, hip, h1⟩⟩
    · exact ⟨0, fun h => absurd h hn⟩
  exact ⟨fun n => Classical.choose (h' n), fun n hn => Classical.choose_spec (h' n) hn⟩
theorem and_u8_3 {b : Int} (h : U8 b) : 0 ≤ bits .and .u8 b 3 ∧ bits .and .u8 b 3 ≤ 3 := by
  unfold U8 at h
  have e : bits .and .u8 b 3 = b % 4 := by
    have h2 : (BitVec.ofInt 8 (3 : Int)).toNat = 2 ^ 2 - 1 := rfl
    show IntKind.u8.wrap ((BitVec.ofInt 8 b &&& BitVec.ofInt 8 (3 : Int)).toNat : Int) = _
    rw [BitVec.toNat_and, h2, Nat.and_two_pow_sub_one_eq_mod, BitVec.toNat_ofInt, IntKind.wrap_u8]
    omega
  rw [e]
  omega
theorem rd_two (W : World) (a b : UInt8) : Rd (W.alloc (.cells #[.int .u8 (a.toNat : Int), .int .u8 (b.toNat : Int)] 5)) (.slice (some ⟨W.heap.size, 0, none⟩) 2 2) [a, b] :=
  Rd.of_obj (bs := [a, b]) (heap_alloc_new W _) (Nat.le_refl _)
theorem lo_byte (n : Nat) : ((UInt8.ofNat n).toNat : Int) = (n : Int) % 256 := by simp
theorem wrap_lo (n : Nat) : IntKind.u8.wrap (n : Int) = (n : Int) % 256 := by rw [IntKind.wrap_u8]
theorem pkt_num {n : Nat} (h : n < 65536) : ((UInt8.ofNat n).toNat : Int) + 256 * ((UInt8.ofNat (n / 256)).toNat : Int) = n := by
  rw [lo_byte, lo_byte]
  omega
section
variable {W W' : World} {w : World} {K : Nat → Prop} {p : Nat} {L : List En}
theorem Cx.learn_lt (h : Cx w K W p L) {ip now : Int} {m : Mc} (hip : U32 ip) (hn : U64 now) :
    Calls Try.prog 13 #[.pointer (some ⟨p, 0, none⟩), .int .u32 ip, m.val, .int .u64 now] W fun e w' =>
      ∃ sv, e = .returned (.tuple #[sv, .int .i64 (learnC L ip)]) ∧ (∃ F, Pks w' F sv (learnP L ip) ∧ ∀ k, F k → k < w'.heap.size ∧ ¬ K k) ∧ Cx w K w' p (learnL L ip m now) ∧ ∀ k, K k → w'.heap[k]? = W.heap[k]? := by
  obtain ⟨F, hC, hF, hK, hB⟩ := h
  refine (hC.learn hip hn).mono ?_
  rintro e w' ⟨sv, rfl, hP, hC', hD⟩
  exact ⟨sv, rfl, ⟨F, hP, fun k hk => ⟨hC'.flt k hk, (hF k hk).2⟩⟩, Cx.did hC' hD hF hK hB⟩
/-- A row beside grows. -/
theorem Cx.grow {v v' : Value} {G : Nat} (h : Cx w (fun k => v.ownBlock = some k ∨ k = G) W p L) (hg : W.grownBy W' v.ownBlock) (hv : v'.ownBlock = v.ownBlock ∨ v'.ownBlock = some W.heap.size) (hlt : ∀ k, v'.ownBlock = some k → k < W'.heap.size) (hw : ∀ k, v.ownBlock = some k → w.heap.size ≤ k) :
    Cx w (fun k => v'.ownBlock = some k ∨ k = G) W' p L := by
  obtain ⟨F, hC, hF, hK, hB⟩ := h
  refine ⟨F, hC.at (fun k hk => hg.block k (hC.flt k hk) (fun e => (hF k hk).2 (Or.inl e.symm))) hg.size, fun k hk => ⟨(hF k hk).1, ?_⟩, ?_, ⟨hg.os.trans hB.os, hg.tape.trans hB.tape, hg.output.trans hB.output, Nat.le_trans hB.size hg.size, fun k hk => (hg.block k (Nat.lt_of_lt_of_le hk hB.size) (fun e => by have := hw k e.symm; omega)).trans (hB.block k hk)⟩⟩
  · rintro (e | e)
    · rcases hv with h1 | h1
      · exact (hF k hk).2 (Or.inl (h1 ▸ e))
      · rw [h1] at e
        have e2 : W.heap.size = k := Option.some.inj e
        have := hC.flt k hk
        omega
    · exact (hF k hk).2 (Or.inr e)
  · rintro k (e | e)
    · exact hlt k e
    · exact Nat.lt_of_lt_of_le (hK k (Or.inr e)) hg.size
end
theorem intInfo : (Try.prog.info? 3).map (fun i => (i.zero, i.size, i.bytes)) = some (some (.int .i64 0), 1, 8) := by kernel_rfl
/-- A numbered packet's two bytes. -/
theorem pkt_cells {W : World} {v : Value} {n : Nat} (h : Rd W v (pkt n)) (hn : n < 65536) : ∃ (g o c : Nat) (x y : Int), v = .slice (some ⟨g, o, none⟩) 2 c ∧ W.cell? ⟨g, o, none⟩ = some (.int .u8 x) ∧ W.cell? ⟨g, o + 1, none⟩ = some (.int .u8 y) ∧ 0 ≤ x ∧ x < 256 ∧ 0 ≤ y ∧ y < 256 ∧ x + 256 * y = n := by
  obtain ⟨A, c, rfl, hc, hr⟩ := h
  obtain ⟨g, o, rfl, hi⟩ := hr (by simp [pkt])
  have h0 := hi 0 (UInt8.ofNat n) rfl
  have h1 := hi 1 (UInt8.ofNat (n / 256)) rfl
  refine ⟨g, o, c, _, _, rfl, h0, h1, by omega, ?_, by omega, ?_, pkt_num hn⟩
  · have := (UInt8.ofNat n).toNat_lt; omega
  · have := (UInt8.ofNat (n / 256)).toNat_lt; omega
theorem cells_oneI (W : World) (n : Int) : ∀ j u, ([Value.int .i64 n] : List Value)[j]? = some u → (W.alloc (.cells #[.int .i64 n] 3)).cell? ((⟨W.heap.size, 0, none⟩ : Addr).add j) = some u := fun j u hu => by
  cases j with
  | zero =>
    obtain rfl : Value.int .i64 n = u := by simpa using hu
    unfold World.cell?
    rw [Addr.add_lit, heap_alloc_new W (.cells #[.int .i64 n] 3)]
    rfl
  | succ j => simp at hu
/-- While packets are told. -/
structure Tl (w : World) (wx : World) (p G : Nat) (sv : Value) (sn ns : List Nat) (j : Nat) (F : Nat → Prop) (out : Value) (L : List En) (o : Obj) : Prop where
  cx : Cx w (fun k => sv.ownBlock = some k ∨ k = G) wx p L
  row : wx.ownsRow w.heap.size 3 1 sv (sn ++ ns.take j).length ((sn ++ ns.take j).map fun n : Nat => Value.int .i64 (n : Int))
  pks : Pks wx F out (ns.map pkt)
  far : ∀ k, F k → k < wx.heap.size ∧ sv.ownBlock ≠ some k
  box : wx.heap[G]? = some o
  apart : sv.ownBlock ≠ some G
theorem take_next {ns : List Nat} {j n : Nat} (h : ns[j]? = some n) (sn : List Nat) : sn ++ ns.take (j + 1) = (sn ++ ns.take j) ++ [n] := by
  rw [List.take_add_one, h, Option.toList_some, List.append_assoc]
theorem Tl.next {w wx wy w8 : World} {p G : Nat} {sv v' : Value} {sn ns : List Nat} {j n : Nat} {F : Nat → Prop} {out : Value} {L : List En} {o : Obj} (h : Tl w wx p G sv sn ns j F out L o) (hn : ns[j]? = some n) (hb : Below wx.heap.size wx wy)
    (hown : w8.ownsRow w.heap.size 3 1 v' ((sn ++ ns.take j).length + 1) (((sn ++ ns.take j).map fun n : Nat => Value.int .i64 (n : Int)) ++ [.int .i64 (n : Int)]))
    (hg : (wy.alloc (.cells #[.int .i64 (n : Int)] 3)).grownBy w8 sv.ownBlock) (hat : v'.ownBlock = sv.ownBlock ∨ v'.ownBlock = some (wy.alloc (.cells #[.int .i64 (n : Int)] 3)).heap.size) : Tl w w8 p G v' sn ns (j + 1) F out L o := by
  have hba : Below wx.heap.size wx (wy.alloc (.cells #[.int .i64 (n : Int)] 3)) := hb.alloc hb.size _
  have same : ∀ k, k < wx.heap.size → sv.ownBlock ≠ some k → w8.heap[k]? = wx.heap[k]? := fun k hk hne =>
    (hg.block k (Nat.lt_of_lt_of_le hk hba.size) (fun e => hne e.symm)).trans (hba.block k hk)
  have hG : sv.ownBlock ≠ some G → G < wx.heap.size → w8.heap[G]? = wx.heap[G]? := fun h1 h2 => same G h2 h1
  refine ⟨(h.cx.to hba).grow hg hat (fun k hk => (hown.lt k hk).2) (fun k hk => (h.row.lt k hk).1), ?_, h.pks.at (fun k hk _ => same k (h.far k hk).1 (h.far k hk).2), fun k hk => ⟨Nat.lt_of_lt_of_le (h.far k hk).1 (Nat.le_trans hba.size hg.size), ?_⟩, (hG h.apart (Array.getElem?_eq_some_iff.1 h.box).1).trans h.box, ?_⟩
  · rw [take_next hn, List.length_append, List.map_append]
    exact hown
  · rcases hat with e | e
    · rw [e]; exact (h.far k hk).2
    · rw [e]
      intro e2
      have e3 : (wy.alloc (.cells #[.int .i64 (n : Int)] 3)).heap.size = k := Option.some.inj e2
      have := (h.far k hk).1
      have := hba.size
      omega
  · rcases hat with e | e
    · rw [e]; exact h.apart
    · rw [e]
      intro e2
      have e3 : (wy.alloc (.cells #[.int .i64 (n : Int)] 3)).heap.size = G := Option.some.inj e2
      have := (Array.getElem?_eq_some_iff.1 h.box).1
      have := hba.size
      omega
theorem not_told {sn ns : List Nat} {j n x : Nat} (hpw : ns.Pairwise (· < ·)) (hn : ns[j]? = some n) (hsn : n ∉ sn) (hx : x ∈ sn ++ ns.take j) : ((x : Int) == (n : Int)) = false := by
  rw [beq_eq_false_iff_ne]
  intro e
  have e' : x = n := by omega
  subst e'
  rcases List.mem_append.1 hx with h | h
  · exact hsn h
  · obtain ⟨k, hk⟩ := List.mem_iff_getElem?.1 h
    rw [List.getElem?_take] at hk
    split at hk
    · obtain ⟨h1, h2⟩ := List.getElem?_eq_some_iff.1 hk
      obtain ⟨h3, h4⟩ := List.getElem?_eq_some_iff.1 hn
      have := List.pairwise_iff_getElem.1 hpw k j h1 h3 (by omega)
      omega
    · cases hk
theorem drop_lt {ns : List Nat} {j n : Nat} (hpw : ns.Pairwise (· < ·)) (hn : ns[j]? = some n) : ∀ x ∈ ns.drop (j + 1), (n : Int) < (x : Int) := fun x hx => by
  obtain ⟨k, hk⟩ := List.mem_iff_getElem?.1 hx
  rw [List.getElem?_drop] at hk
  obtain ⟨h1, h2⟩ := List.getElem?_eq_some_iff.1 hk
  obtain ⟨h3, h4⟩ := List.getElem?_eq_some_iff.1 hn
  have := List.pairwise_iff_getElem.1 hpw j (j + 1 + k) h3 h1 (by omega)
  omega
/-- Between two steps. -/
structure On (w : World) (M : Nat) (own : Nat → Int) (wr : World) (p : Nat) (sv : Value) (i tk td : Nat) (t : Int) (sn : List Nat) (L : List En) : Prop where
  hi : i ≤ M
  h3 : i ≤ 300
  t0 : 0 ≤ t
  t1 : t ≤ 3 * i
  took : tk ≤ i
  sum : tk = td + pend L
  sl : sn.length ≤ td
  inv : Inv own i t sn L
  cx : Cx w (fun k => sv.ownBlock = some k) wr p L
  row : wr.ownsRow w.heap.size 3 1 sv sn.length (sn.map fun n : Nat => Value.int .i64 (n : Int))
theorem wrap_i (x : Int) (h0 : 0 ≤ x) (h1 : x ≤ 1000000) : IntKind.i64.wrap x = x := by rw [IntKind.wrap_i64]; omega
end Go.Proofs.Ytfeipeninmclkaa
