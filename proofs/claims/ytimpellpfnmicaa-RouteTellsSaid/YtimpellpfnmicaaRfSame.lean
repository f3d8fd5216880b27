/-
  What is proved: the document's Covers, its look-up, and the laws' 'same' by contract.
  Conditions: the numbers fit their types.
-/
import Derived.Test.YtimpellpfnmicaaRfCut
import Derived.Test.YtimpellpfnmicaaRtEq
import Derived.Test.YtimpellpfnmicaaLawRtLongest
namespace Go.Proofs.Ytimpellpfnmicaa
open Go.RowKit

def Rt.robj (r : Rt) : Obj := .cells #[.int .u32 r.d, .int .i64 r.b, .int .u32 r.v, .int .i64 r.o] 36
theorem RtAt.of_rheap {w : World} {g : Nat} {r : Rt} (h : w.heap[g]? = some r.robj) : RtAt w g r := by
  unfold Rt.robj at h
  constructor <;> simp [World.cell?, h]

set_option maxRecDepth 100000 in
theorem rcovers_any (r : Rt) (hr : I64 r.b) (x : Int) (hx : U32 x) (w : World) : Calls Try.prog 23 #[.agg #[.int .u32 r.d, .int .i64 r.b, .int .u32 r.v, .int .i64 r.o], .int .u32 x] w fun e w' => e = .returned (.bool (cutI x r.b == r.d)) ∧ Below w.heap.size w w' := by
  obtain ⟨y, hy⟩ : ∃ y, cutI x r.b = y := ⟨_, rfl⟩
  have hcut := Lib.hid (fun W => rcut_any x r.b hx hr W)
  rw [hy] at hcut ⊢
  have B1 := Lib.hid ((Below.refl _ w).alloc (Nat.le_refl _) r.robj)
  have R1 := Lib.hid (RtAt.of_rheap (heap_alloc_new w r.robj))
  unfold Rt.robj at B1 R1
  clear hy
  go_enter Try.func23, Try.ntmps23
  go_upto_region 1 with fail
  generalize w.alloc (Obj.cells #[Value.int IntKind.u32 r.d, Value.int IntKind.i64 r.b, Value.int IntKind.u32 r.v, Value.int IntKind.i64 r.o] 36) = w1 at B1 R1 ⊢
  generalize w.heap.size = g at R1 ⊢
  obtain ⟨c0, c1, c2, c3⟩ := R1.out
  go_quiet ((go_at_call 12; exact Calls.quiet_of_same (hcut.out _)))
  go_wp2_with fail
  go_ret
  exact ⟨rfl, below_dN B1.out _⟩

set_option maxRecDepth 100000 in
theorem same_any (s r : Rt) (w : World) : Calls Try.prog 18 #[.agg #[.int .u32 s.d, .int .i64 s.b, .int .u32 s.v, .int .i64 s.o], .agg #[.int .u32 r.d, .int .i64 r.b, .int .u32 r.v, .int .i64 r.o]] w fun e w' => e = .returned (.bool (eqB s r)) ∧ Below w.heap.size w w' := by
  have B1 := Lib.hid (((Below.refl _ w).alloc (Nat.le_refl _) s.obj).alloc (by simp) r.robj)
  have R1 := Lib.hid ((RtAt.new w s).below ((Below.refl _ _).alloc (Nat.le_refl _) r.robj))
  have R2 := Lib.hid (RtAt.of_rheap (heap_alloc_new (w.alloc s.obj) r.robj))
  unfold Rt.robj Rt.obj at B1 R1 R2
  rw [World.size_alloc] at R2
  unfold eqB
  obtain ⟨q1, h1⟩ : ∃ q, (s.d == r.d) = q := ⟨_, rfl⟩
  obtain ⟨q2, h2⟩ : ∃ q, (s.b == r.b) = q := ⟨_, rfl⟩
  obtain ⟨q3, h3⟩ : ∃ q, (s.v == r.v) = q := ⟨_, rfl⟩
  obtain ⟨q4, h4⟩ : ∃ q, (s.o == r.o) = q := ⟨_, rfl⟩
  rw [h1, h2, h3, h4]
  go_enter Try.func18, Try.ntmps18
  go_upto_region 1 with fail
  generalize (w.alloc (Obj.cells #[Value.int IntKind.u32 s.d, Value.int IntKind.i64 s.b, Value.int IntKind.u32 s.v, Value.int IntKind.i64 s.o] 33)).alloc (Obj.cells #[Value.int IntKind.u32 r.d, Value.int IntKind.i64 r.b, Value.int IntKind.u32 r.v, Value.int IntKind.i64 r.o] 36) = w1 at B1 R1 R2 ⊢
  generalize w.heap.size = g at R1 R2 ⊢
  obtain ⟨c0, c1, c2, c3⟩ := R1.out
  obtain ⟨d0, d1, d2, d3⟩ := R2.out
  cases q1 with
  | false =>
    go_wp2_with fail
    go_ret
    exact ⟨rfl, B1.out⟩
  | true =>
    cases q2 with
    | false =>
      go_wp2_with fail
      go_ret
      exact ⟨rfl, B1.out⟩
    | true =>
      cases q3 with
      | false =>
        go_wp2_with fail
        go_ret
        exact ⟨rfl, B1.out⟩
      | true =>
        go_wp2_with fail
        go_ret
        exact ⟨rfl, B1.out⟩

/-- What the document's look-up tells: where a key stands, or -1. -/
def At (L : List Rt) (d b z : Int) : Prop := (z = -1 ∧ look L d b = none) ∨ ∃ (k : Nat) (r : Rt), z = (k : Int) ∧ L[k]? = some r ∧ Same d b r
theorem at_ex {L : List Rt} (d b : Int) : ∃ z, At L d b z := by
  cases h : look L d b with
  | none => exact ⟨-1, .inl ⟨rfl, h⟩⟩
  | some r =>
    obtain ⟨h1, h2⟩ := look_some h
    obtain ⟨k, hk⟩ := List.getElem?_of_mem h1
    exact ⟨k, .inr ⟨k, r, rfl, hk, h2⟩⟩
theorem At.one {L : List Rt} (hs : Srt L) {d b z : Int} (h : At L d b z) {k : Nat} {r : Rt} (hk : L[k]? = some r) (hr : Same d b r) : z = (k : Int) := by
  rcases h with ⟨_, h⟩ | ⟨j, s, rfl, hj, hsj⟩
  · exact absurd hr (look_none.1 h r (List.mem_of_getElem? hk))
  · obtain ⟨h1, h2⟩ := List.getElem?_eq_some_iff.1 hk
    obtain ⟨h3, h4⟩ := List.getElem?_eq_some_iff.1 hj
    rcases Nat.lt_trichotomy j k with e | e | e
    · have := List.pairwise_iff_getElem.1 hs j k h3 h1 e
      rw [h2, h4] at this
      exact absurd ⟨hsj, hr⟩ (this.ne d b)
    · rw [e]
    · have := List.pairwise_iff_getElem.1 hs k j h1 h3 e
      rw [h2, h4] at this
      exact absurd ⟨hr, hsj⟩ (this.ne d b)
theorem At.none {L : List Rt} {d b z : Int} (h : At L d b z) (hn : ∀ r ∈ L, ¬ Same d b r) : z = -1 := by
  rcases h with ⟨h, _⟩ | ⟨j, s, _, hj, hsj⟩
  · exact h
  · exact absurd hsj (hn s (List.mem_of_getElem? hj))

set_option maxRecDepth 100000 in
theorem rlook_any (L : List Rt) (hs : Srt L) (h64 : L.length ≤ 64) (d b z : Int) (hz : At L d b z) (p : Nat) (A : Option Addr) (c : Nat) (hc : L.length ≤ c) (w : World)
    (hp : w.cell? ⟨p, 0, none⟩ = some (.slice A L.length c)) (hR : RtsIn w A L) :
    Calls Try.prog 22 #[.pointer (some ⟨p, 0, none⟩), .int .u32 d, .int .i64 b] w fun e w' => e = .returned (.int .i64 z) ∧ w' = w := by
  have HZ := Lib.hid hz
  have HR := Lib.hid hR
  have HS := Lib.hid hs
  clear hz hR hs
  go_enter Try.func22, Try.ntmps22
  go_wp2_with fail
  go_loopw [7] (fun s7 wr => ∃ (k : Nat), s7 = .int .i64 (k : Int) ∧ k ≤ L.length ∧ (∀ r ∈ L.take k, ¬ Same d b r) ∧ wr = w) (fun s7 _ => L.length - (intOf s7).toNat)
  case atStart => exact ⟨0, rfl, Nat.zero_le _, by simp, rfl⟩
  case round =>
    obtain ⟨k, rfl, hk, hno, rfl⟩ := hrel
    by_cases hlt : k < L.length
    · have q1 : decide ((k : Int) < (L.length : Int)) = true := decide_eq_true (by omega)
      obtain ⟨t, ht⟩ : ∃ t, L[k]? = some t := ⟨L[k], List.getElem?_eq_getElem hlt⟩
      obtain ⟨g, o, rfl, c0, c1, c2, c3⟩ := HR.out k t ht
      have HT := Lib.hid ht
      have HN := Lib.hid hno
      clear ht hno
      by_cases h1 : t.d = d
      · have q2 : (t.d == d) = true := beq_iff_eq.2 h1
        by_cases h2 : t.b = b
        · have q3 : (t.b == b) = true := beq_iff_eq.2 h2
          obtain rfl : z = (k : Int) := HZ.out.one HS.out HT.out ⟨h1, h2⟩
          clear h1 h2
          go_wp2_with fail
          go_ret
          exact ⟨rfl, rfl⟩
        · have q3 : (t.b == b) = false := beq_eq_false_iff_ne.2 h2
          have HN2 : Hid (∀ r ∈ L.take (k + 1), ¬ Same d b r) := Lib.hid (fun r hr => by
            rw [List.take_add_one, HT.out, List.mem_append] at hr
            rcases hr with hr | hr
            · exact HN.out r hr
            · obtain rfl : r = t := by simpa using hr
              exact fun e => h2 e.2)
          clear h1 h2
          go_wp2_with fail
          exact ⟨⟨k + 1, by simp, by omega, HN2.out, by simp⟩, by simp [intOf]; omega⟩
      · have q2 : (t.d == d) = false := beq_eq_false_iff_ne.2 h1
        have HN2 : Hid (∀ r ∈ L.take (k + 1), ¬ Same d b r) := Lib.hid (fun r hr => by
          rw [List.take_add_one, HT.out, List.mem_append] at hr
          rcases hr with hr | hr
          · exact HN.out r hr
          · obtain rfl : r = t := by simpa using hr
            exact fun e => h1 e.1)
        clear h1
        go_wp2_with fail
        exact ⟨⟨k + 1, by simp, by omega, HN2.out, by simp⟩, by simp [intOf]; omega⟩
    · have q1 : decide ((k : Int) < (L.length : Int)) = false := decide_eq_false (by omega)
      obtain rfl : k = L.length := by omega
      obtain rfl : z = -1 := HZ.out.none (by rw [List.take_length] at hno; exact hno)
      clear hno
      go_wp2_with fail
      go_ret
      exact ⟨rfl, rfl⟩
end Go.Proofs.Ytimpellpfnmicaa
