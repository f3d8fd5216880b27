/-
  What is proved: a cache beside a law's own memory: its operations by contract, with what they leave alone.
  Conditions: none.
-/
import Derived.Test.YtfeipeninmclkaaCaLift
namespace Go.Proofs.Ytfeipeninmclkaa
open Go.RowKit

/-- A cache whose blocks are none of w's, and none of K's. -/
def Cx (w : World) (K : Nat → Prop) (wx : World) (p : Nat) (L : List En) : Prop :=
  ∃ F, Ca wx p F L ∧ (∀ k, F k → w.heap.size ≤ k ∧ ¬ K k) ∧ (∀ k, K k → k < wx.heap.size) ∧ Below w.heap.size w wx

section
variable {w W w' : World} {K : Nat → Prop} {p : Nat} {L L' : List En} {F F' : Nat → Prop}
theorem Cx.did (hC : Ca w' p F' L') (hD : Did W w' F F') (hF : ∀ k, F k → w.heap.size ≤ k ∧ ¬ K k) (hK : ∀ k, K k → k < W.heap.size) (hB : Below w.heap.size w W) :
    Cx w K w' p L' ∧ ∀ k, K k → w'.heap[k]? = W.heap[k]? :=
  ⟨⟨F', hC, fun k hk => by
      rcases hD.new k hk with h | h
      · exact hF k h
      · exact ⟨Nat.le_trans hB.size h, fun hk2 => absurd (hK k hk2) (by omega)⟩,
    fun k hk => Nat.lt_of_lt_of_le (hK k hk) hD.size, hD.below hB hB.size (fun k hk => (hF k hk).1)⟩,
    fun k hk => hD.block k (hK k hk) (fun h => (hF k h).2 hk)⟩
theorem Cx.to (h : Cx w K W p L) (hb : Below W.heap.size W w') : Cx w K w' p L := by
  obtain ⟨F, hC, hF, hK, hB⟩ := h
  exact ⟨F, hC.below hb, hF, fun k hk => Nat.lt_of_lt_of_le (hK k hk) hb.size, below_to hB hb hB.size⟩
theorem Cx.base (h : Cx w K W p L) : Below w.heap.size w W := by
  obtain ⟨F, hC, hF, hK, hB⟩ := h
  exact hB
theorem Cx.lt (h : Cx w K W p L) : ∀ k, K k → k < W.heap.size := by
  obtain ⟨F, hC, hF, hK, hB⟩ := h
  exact hK
theorem Cx.drop {K' : Nat → Prop} (h : Cx w K W p L) (hs : ∀ k, K' k → K k) : Cx w K' W p L := by
  obtain ⟨F, hC, hF, hK, hB⟩ := h
  exact ⟨F, hC, fun k hk => ⟨(hF k hk).1, fun h => (hF k hk).2 (hs k h)⟩, fun k hk => hK k (hs k hk), hB⟩
/-- New blocks stand beside. -/
theorem Cx.new (h : Cx w K W p L) (hb : Below W.heap.size W w') : Cx w (fun k => K k ∨ W.heap.size ≤ k ∧ k < w'.heap.size) w' p L := by
  obtain ⟨F, hC, hF, hK, hB⟩ := h
  refine ⟨F, hC.below hb, fun k hk => ⟨(hF k hk).1, ?_⟩, ?_, below_to hB hb hB.size⟩
  · rintro (h | h)
    · exact (hF k hk).2 h
    · have := hC.flt k hk; omega
  · rintro k (h | h)
    · exact Nat.lt_of_lt_of_le (hK k h) hb.size
    · exact h.2
theorem Cx.beside (h : Cx w K W p L) {g : Nat} (hb : Below W.heap.size W w') (h1 : W.heap.size ≤ g) (h2 : g < w'.heap.size) : Cx w (fun k => K k ∨ k = g) w' p L :=
  (h.new hb).drop fun k hk => hk.imp id (fun e => by omega)
theorem Cx.ok (h : Cx w K W p L) : ∀ e ∈ L, e.Ok := by
  obtain ⟨F, hC, hF, hK, hB⟩ := h
  exact hC.ok
theorem Cx.srt (h : Cx w K W p L) : Srt L := by
  obtain ⟨F, hC, hF, hK, hB⟩ := h
  exact hC.srt
theorem Cx.few (h : Cx w K W p L) : L.length ≤ 32 := by
  obtain ⟨F, hC, hF, hK, hB⟩ := h
  exact hC.few
theorem Cx.wait (h : Cx w K W p L) {ip now : Int} (hip : U32 ip) (hn : U64 now) {u : Value} {x : List UInt8} (hbig : x.length ≤ 140737488355328) (hu : Rd W u x) :
    Calls Try.prog 11 #[.pointer (some ⟨p, 0, none⟩), .int .u32 ip, u, .int .u64 now] W fun e w' =>
      e = .returned (.tuple #[.bool (waitA L ip now), .int .i64 (waitC L ip now)]) ∧ Cx w K w' p (waitL L ip now x) ∧ ∀ k, K k → w'.heap[k]? = W.heap[k]? := by
  obtain ⟨F, hC, hF, hK, hB⟩ := h
  refine (hC.wait hip hn hbig hu).mono ?_
  rintro e w' ⟨F', rfl, hC', hD, _⟩
  exact ⟨rfl, Cx.did hC' hD hF hK hB⟩
theorem Cx.learn (h : Cx w K W p L) {ip now : Int} {m : Mc} (hip : U32 ip) (hn : U64 now) :
    Calls Try.prog 13 #[.pointer (some ⟨p, 0, none⟩), .int .u32 ip, m.val, .int .u64 now] W fun e w' =>
      ∃ sv, e = .returned (.tuple #[sv, .int .i64 (learnC L ip)]) ∧ (∃ F, Pks w' F sv (learnP L ip) ∧ ∀ k, F k → ¬ K k) ∧ Cx w K w' p (learnL L ip m now) ∧ ∀ k, K k → w'.heap[k]? = W.heap[k]? := by
  obtain ⟨F, hC, hF, hK, hB⟩ := h
  refine (hC.learn hip hn).mono ?_
  rintro e w' ⟨sv, rfl, hP, hC', hD⟩
  exact ⟨sv, rfl, ⟨F, hP, fun k hk => (hF k hk).2⟩, Cx.did hC' hD hF hK hB⟩
theorem Cx.tick (h : Cx w K W p L) {now : Int} (hn : U64 now) :
    Calls Try.prog 16 #[.pointer (some ⟨p, 0, none⟩), .int .u64 now] W fun e w' =>
      ∃ dv, e = .returned (.tuple #[dv, .int .i64 (tickN L now : Nat)]) ∧ w'.ownsRow W.heap.size 32 1 dv (tickA L now).length ((tickA L now).map (Value.int .u32)) ∧ Cx w K w' p (tickL L now) ∧ ∀ k, K k → w'.heap[k]? = W.heap[k]? := by
  obtain ⟨F, hC, hF, hK, hB⟩ := h
  refine (hC.tick hn).mono ?_
  rintro e w' ⟨dv, rfl, hO, hC', hD⟩
  exact ⟨dv, rfl, hO, Cx.did hC' hD hF hK hB⟩
theorem Cx.find (h : Cx w K W p L) {ip now : Int} (hip : U32 ip) (hn : U64 now) :
    Calls Try.prog 19 #[.pointer (some ⟨p, 0, none⟩), .int .u32 ip, .int .u64 now] W fun e w' =>
      e = .returned (.tuple #[(findL L ip now).1.val, .bool (findL L ip now).2]) ∧ Below W.heap.size W w' := by
  obtain ⟨F, hC, hF, hK, hB⟩ := h
  exact hC.find hip hn
theorem Cx.len (h : Cx w K W p L) : Calls Try.prog 21 #[.pointer (some ⟨p, 0, none⟩)] W fun e w' => e = .returned (.int .i64 L.length) ∧ W = w' := by
  obtain ⟨F, hC, hF, hK, hB⟩ := h
  exact hC.len
end
theorem owns_shape {w : World} {B : Nat} {e : TypeId} {s : Nat} {v : Value} {k : Nat} {xs : List Value} (h : w.ownsRow B e s v k xs) : ∃ A c, v = .slice A k c ∧ (0 < k → ∃ g, A = some ⟨g, 0, none⟩) := by
  rcases h.2 with ⟨rfl, rfl⟩ | ⟨g, c, _, rfl, _⟩
  · exact ⟨_, _, rfl, fun h => absurd h (by omega)⟩
  · exact ⟨_, _, rfl, fun _ => ⟨g, rfl⟩⟩
theorem Pks.shape {w : World} {F : Nat → Prop} {sv : Value} {pk : List (List UInt8)} (h : Pks w F sv pk) : ∃ A c, sv = .slice A pk.length c := by
  by_cases hp : pk = []
  · rcases h with ⟨h1, h2⟩ | ⟨q, vs, h1, h2, h3⟩
    · subst hp
      exact ⟨_, _, h2⟩
    · exact ⟨_, _, h2⟩
  · obtain ⟨g, c, h1, _⟩ := h.cells hp
    exact ⟨_, _, h1⟩
theorem Cx.ticks {w W : World} {K : Nat → Prop} {p : Nat} {L L' : List En} (h : Cx w K W p L) {now : Int} (hn : U64 now) {l : List Int} {m : Nat} (h1 : tickA L now = l) (h2 : tickN L now = m) (h3 : tickL L now = L') :
    Calls Try.prog 16 #[.pointer (some ⟨p, 0, none⟩), .int .u64 now] W fun e w' =>
      ∃ A c, e = .returned (.tuple #[.slice A l.length c, .int .i64 (m : Nat)]) ∧ (∀ i v, l[i]? = some v → ∃ g, A = some ⟨g, 0, none⟩ ∧ w'.cell? ⟨g, i, none⟩ = some (.int .u32 v)) ∧ Cx w K w' p L' ∧ ∀ k, K k → w'.heap[k]? = W.heap[k]? := by
  refine (h.tick hn).mono ?_
  rintro e w' ⟨dv, rfl, hO, hC, hK⟩
  obtain ⟨A, c, rfl, hA⟩ := owns_shape hO
  rw [h1] at hO hA
  rw [h2, h1]
  rw [h3] at hC
  refine ⟨A, c, rfl, fun i v hi => ?_, hC, hK⟩
  have hl := (List.getElem?_eq_some_iff.1 hi).1
  obtain ⟨g, rfl⟩ := hA (by omega)
  exact ⟨g, rfl, owns_cell hO (by rw [List.getElem?_map, hi]; rfl)⟩
/-- The cache that a law begins with. -/
theorem new_cx (w : World) (w1 : World) (hB1 : Below w.heap.size w w1) : Calls Try.prog 10 #[] w1 fun e w' => ∃ p : Nat, e = .returned (.pointer (some ⟨p, 0, none⟩)) ∧ Cx w (fun _ => False) w' p [] ∧ Below w1.heap.size w1 w' := by
  refine (new_any w1).mono ?_
  rintro e w' ⟨p, rfl, hC, hp, hB⟩
  exact ⟨p, rfl, ⟨_, hC, fun k hk => ⟨by have := hB1.size; omega, fun h => h⟩, fun k hk => hk.elim, below_to hB1 hB hB1.size⟩, hB⟩
end Go.Proofs.Ytfeipeninmclkaa
