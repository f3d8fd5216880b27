/-
  What is proved: a law's step in memory, and in its own box; what each step leaves of what a cache knows.
  Conditions: none.
-/
import Derived.Test.YtfeipeninmclkaaCaCx
namespace Go.Proofs.Ytfeipeninmclkaa
open Go.RowKit

theorem StepsAt.get {w : World} {A : Option Addr} {M k : Nat} (h : StepsAt w A M) (hk : k < M) : ∃ (g o : Nat) (kd ip : Int) (m : Mc) (bs : List UInt8) (b : Int) (B : Option Addr) (c : Nat), A = some ⟨g, o, none⟩ ∧
    (-9223372036854775808 ≤ kd ∧ kd ≤ 9223372036854775807) ∧ U32 ip ∧ bs.length ≤ 140737488355328 ∧ U8 b ∧ Rd w (.slice B bs.length c) bs ∧
    w.cell? ⟨g, o + k * 10, none⟩ = some (.int .i64 kd) ∧ w.cell? ⟨g, o + k * 10 + 1, none⟩ = some (.int .u32 ip) ∧ w.cell? ⟨g, o + k * 10 + 2, none⟩ = some (.int .u8 m.a) ∧ w.cell? ⟨g, o + k * 10 + 3, none⟩ = some (.int .u8 m.b) ∧
    w.cell? ⟨g, o + k * 10 + 4, none⟩ = some (.int .u8 m.c) ∧ w.cell? ⟨g, o + k * 10 + 5, none⟩ = some (.int .u8 m.d) ∧ w.cell? ⟨g, o + k * 10 + 6, none⟩ = some (.int .u8 m.e) ∧ w.cell? ⟨g, o + k * 10 + 7, none⟩ = some (.int .u8 m.f) ∧
    w.cell? ⟨g, o + k * 10 + 8, none⟩ = some (.slice B bs.length c) ∧ w.cell? ⟨g, o + k * 10 + 9, none⟩ = some (.int .u8 b) := by
  obtain ⟨g, o, ⟨kd, ip, m, bs, b⟩, v, rfl, hs, hrd, hc⟩ := h k hk
  obtain ⟨B, c, rfl, _⟩ := id hrd
  exact ⟨g, o, kd, ip, m, bs, b, B, c, rfl, hs.k, hs.ip, hs.few, hs.by_, hrd, hc 0 _ rfl, hc 1 _ rfl, hc 2 _ rfl, hc 3 _ rfl, hc 4 _ rfl, hc 5 _ rfl, hc 6 _ rfl, hc 7 _ rfl, hc 8 _ rfl, hc 9 _ rfl⟩
/-- A step's own box. -/
def stCells (kd ip : Int) (m : Mc) (v : Value) (b : Int) : Array Value := #[.int .i64 kd, .int .u32 ip, .int .u8 m.a, .int .u8 m.b, .int .u8 m.c, .int .u8 m.d, .int .u8 m.e, .int .u8 m.f, v, .int .u8 b]
def stObj (kd ip : Int) (m : Mc) (v : Value) (b : Int) : Obj := .cells (stCells kd ip m v b) 37
theorem step_one (kd ip : Int) (m : Mc) (B : Option Addr) (n c : Nat) (b : Int) : (#[Value.int .i64 kd, .int .u32 ip, .int .u8 m.a, .int .u8 m.b, .int .u8 m.c, .int .u8 m.d, .int .u8 m.e, .int .u8 m.f, .slice B n c, .int .u8 b] : Array Value).all (·.oneCell') = true := by simp [Value.oneCell']
theorem stepSize : (Try.prog.info? 37).map (·.size) = some 10 := by kernel_rfl
theorem step_box {w : World} {G : Nat} {kd ip : Int} {m : Mc} {v : Value} {b : Int} (h : w.heap[G]? = some (stObj kd ip m v b)) : w.cell? ⟨G, 0, none⟩ = some (.int .i64 kd) ∧ w.cell? ⟨G, 1, none⟩ = some (.int .u32 ip) ∧ w.cell? ⟨G, 2, none⟩ = some (.int .u8 m.a) ∧ w.cell? ⟨G, 3, none⟩ = some (.int .u8 m.b) ∧
    w.cell? ⟨G, 4, none⟩ = some (.int .u8 m.c) ∧ w.cell? ⟨G, 5, none⟩ = some (.int .u8 m.d) ∧ w.cell? ⟨G, 6, none⟩ = some (.int .u8 m.e) ∧ w.cell? ⟨G, 7, none⟩ = some (.int .u8 m.f) ∧ w.cell? ⟨G, 8, none⟩ = some v ∧ w.cell? ⟨G, 9, none⟩ = some (.int .u8 b) := by
  unfold stObj stCells at h
  refine ⟨?_, ?_, ?_, ?_, ?_, ?_, ?_, ?_, ?_, ?_⟩ <;> simp [World.cell?, h]
theorem Cx.row {w W : World} {K : Nat → Prop} {p g : Nat} {L : List En} (h : Cx w K W p L) (hg : w.heap.size ≤ g) (hk : K g) (cs : Array Value) : Cx w K (W.setRow g cs) p L := by
  obtain ⟨F, hC, hF, hK, hB⟩ := h
  have hz : (W.setRow g cs).heap.size = W.heap.size := by simp [World.setRow]
  have ho : ∀ k, k ≠ g → (W.setRow g cs).heap[k]? = W.heap[k]? := fun k hk => by
    unfold World.setRow
    simp only [Array.getElem?_modify]
    rw [if_neg (fun e => hk e.symm)]
  refine ⟨F, hC.at (fun k hf => ho k (fun e => (hF k hf).2 (e ▸ hk))) (by omega), hF, fun k hk => by rw [hz]; exact hK k hk, ⟨hB.os, hB.tape, hB.output, by rw [hz]; exact hB.size, fun k hk => (ho k (by omega)).trans (hB.block k hk)⟩⟩
theorem mac_self (m : Mc) (w : World) : (Op.equalIn 10000 34 (.agg #[.int .u8 m.a, .int .u8 m.b, .int .u8 m.c, .int .u8 m.d, .int .u8 m.e, .int .u8 m.f]) (.agg #[.int .u8 m.a, .int .u8 m.b, .int .u8 m.c, .int .u8 m.d, .int .u8 m.e, .int .u8 m.f])).run Try.prog w = .ok true w := by
  rw [mac_eqC]
  simp
theorem wrap_by {b : Int} (h : U8 b) : IntKind.u64.wrap b = b := by
  unfold U8 at h
  rw [IntKind.wrap_u64]
  omega
theorem wrap_u (x : Int) : U64 (IntKind.u64.wrap x) := by
  rw [IntKind.wrap_u64]
  unfold U64
  omega
/-- An address's own box. -/
def Mc.cells (m : Mc) : Array Value := #[.int .u8 m.a, .int .u8 m.b, .int .u8 m.c, .int .u8 m.d, .int .u8 m.e, .int .u8 m.f]
def Mc.obj (m : Mc) : Obj := .cells m.cells 34
theorem mac_box {w : World} {G : Nat} {m : Mc} (h : w.heap[G]? = some m.obj) : w.cell? ⟨G, 0, none⟩ = some (.int .u8 m.a) ∧ w.cell? ⟨G, 1, none⟩ = some (.int .u8 m.b) ∧ w.cell? ⟨G, 2, none⟩ = some (.int .u8 m.c) ∧ w.cell? ⟨G, 3, none⟩ = some (.int .u8 m.d) ∧
    w.cell? ⟨G, 4, none⟩ = some (.int .u8 m.e) ∧ w.cell? ⟨G, 5, none⟩ = some (.int .u8 m.f) := by
  unfold Mc.obj Mc.cells at h
  refine ⟨?_, ?_, ?_, ?_, ?_, ?_⟩ <;> simp [World.cell?, h]

/-! ### What is known of an address -/
/-- Whatever is known of the address is this, and was learned. -/
def Bd (L : List En) (ip : Int) (ev : Bool) (la : Mc) : Prop := ∀ e ∈ L, e.ip = ip → e.kn = true → ev = true ∧ e.m = la
theorem Bd.nil (ip : Int) (ev : Bool) (la : Mc) : Bd [] ip ev la := fun e h => by cases h
section
variable {L L' : List En} {ip i now : Int} {ev : Bool} {la m : Mc} {p : List UInt8}
theorem Bd.sub (h : Bd L ip ev la) (hs : ∀ e ∈ L', e ∈ L) : Bd L' ip ev la := fun e he => h e (hs e he)
theorem room_sub (h : room L = some L') : ∀ e ∈ L', e ∈ L := by
  unfold room at h
  split at h
  · cases h; exact fun _ h => h
  · cases hl : lst L with
    | none => rw [hl] at h; cases h
    | some b =>
      rw [hl] at h
      cases h
      exact fun e he => ((mem_del _ e).1 he).1
theorem del_sub {k : Int} : ∀ e ∈ delL L k, e ∈ L := fun e he => ((mem_del k e).1 he).1
theorem Bd.new (h : Bd L ip ev la) (hs : Srt L) : Bd (newL L i now p) ip ev la := by
  unfold newL
  cases hr : room L with
  | none => exact h
  | some L' =>
    intro e he hi hk
    rcases (mem_put (room_srt hs hr) _ e).1 he with rfl | ⟨he, _⟩
    · cases hk
    · exact h e (room_sub hr e he) hi hk
theorem Bd.wait (h : Bd L ip ev la) (hs : Srt L) : Bd (waitL L i now p) ip ev la := by
  unfold waitL
  split
  · exact h.new hs
  · split
    · exact (h.sub del_sub).new (srt_del hs i)
    · split
      · unfold queueL
        cases hl : look L i with
        | none => exact h
        | some s =>
          simp only
          split
          · exact h
          · intro e he hi hk
            rcases (mem_put hs _ e).1 he with rfl | ⟨he, _⟩
            · exact h s (look_some hl).1 hi hk
            · exact h e he hi hk
      · exact h
theorem Bd.tick (h : Bd L ip ev la) : Bd (tickL L now) ip ev la := by
  intro e he hi hk
  obtain ⟨s, hs, ht⟩ := List.mem_filterMap.1 he
  unfold tick1 at ht
  split at ht
  · cases ht
  · split at ht
    · cases ht
      exact h s hs hi hk
    · cases ht
      exact h e hs hi hk
theorem learn_mem (hs : Srt L) {e : En} (he : e ∈ learnL L i m now) : e ∈ L ∧ ¬ e.ip = i ∨ learnC L i = 0 ∧ e = known i m now ∨ ¬ learnC L i = 0 ∧ e ∈ L := by
  unfold learnL at he
  unfold learnC
  cases hl : look L i with
  | some s =>
    rw [hl] at he
    simp only [Option.isSome_some, if_true] at he
    rcases (mem_put hs _ e).1 he with h | h
    · exact .inr (.inl ⟨by simp, h⟩)
    · exact .inl h
  | none =>
    rw [hl] at he
    simp only [Option.isSome_none, Bool.false_eq_true, if_false] at he
    cases hr : room L with
    | none =>
      rw [hr] at he
      exact .inr (.inr ⟨by simp, he⟩)
    | some L' =>
      rw [hr] at he
      rcases (mem_put (room_srt hs hr) _ e).1 he with h | h
      · exact .inr (.inl ⟨by simp, h⟩)
      · exact .inl ⟨room_sub hr e h.1, h.2⟩
theorem Bd.learn_same (hs : Srt L) (hc : learnC L ip = 0) : Bd (learnL L ip m now) ip true m := by
  intro e he hi _
  rcases learn_mem hs he with h | h | h
  · exact absurd hi h.2
  · rw [h.2]; exact ⟨rfl, rfl⟩
  · exact absurd hc h.1
theorem Bd.learn_other (h : Bd L ip ev la) (hs : Srt L) (ho : ¬ i = ip ∨ ¬ learnC L i = 0) : Bd (learnL L i m now) ip ev la := by
  intro e he hi hk
  rcases learn_mem hs he with k | k | k
  · exact h e k.1 hi hk
  · rcases ho with ho | ho
    · rw [k.2] at hi
      exact absurd hi ho
    · exact absurd k.1 ho
  · exact h e k.2 hi hk
theorem Bd.find (h : Bd L ip ev la) : findL L ip now = (Mc.zero, false) ∨ ev = true ∧ findL L ip now = (la, true) := by
  unfold findL
  cases hl : look L ip with
  | none => exact .inl rfl
  | some e =>
    simp only
    split
    · rename_i hk
      obtain ⟨h1, h2⟩ := look_some hl
      obtain ⟨a, b⟩ := h e h1 h2 (by simp at hk; exact hk.1)
      exact .inr ⟨a, by rw [b]⟩
    · exact .inl rfl
end
end Go.Proofs.Ytfeipeninmclkaa
