/-
  What is proved: the document's age, old and find by contract.
  Conditions: the times fit their type.
-/
import Derived.Test.YtfeipeninmclkaaRcRow
import Derived.StillTailTactics
import Derived.Deep.DeepCutAuto
namespace Go.Proofs.Ytfeipeninmclkaa
open Go.RowKit

theorem XAt.flat {w : World} {g : Nat} {x : Xe} (h : XAt w g 0 x) : w.cell? ⟨g, 0, none⟩ = some (.int .u32 x.e.ip) ∧ w.cell? ⟨g, 1, none⟩ = some (.bool x.e.kn) ∧ w.cell? ⟨g, 2, none⟩ = some (.int .u8 x.e.m.a) ∧ w.cell? ⟨g, 3, none⟩ = some (.int .u8 x.e.m.b) ∧ w.cell? ⟨g, 4, none⟩ = some (.int .u8 x.e.m.c) ∧ w.cell? ⟨g, 5, none⟩ = some (.int .u8 x.e.m.d) ∧
    w.cell? ⟨g, 6, none⟩ = some (.int .u8 x.e.m.e) ∧ w.cell? ⟨g, 7, none⟩ = some (.int .u8 x.e.m.f) ∧ w.cell? ⟨g, 8, none⟩ = some (.int .u64 x.e.t) ∧ w.cell? ⟨g, 9, none⟩ = some (.int .i64 x.e.tr) ∧ w.cell? ⟨g, 10, none⟩ = some (.slice x.A x.e.pk.length x.c) := by
  obtain ⟨c0, c1, c2, c3, c4, c5, c6, c7, c8, c9, c10⟩ := h
  simp only [Nat.zero_add] at c0 c1 c2 c3 c4 c5 c6 c7 c8 c9 c10
  exact ⟨c0, c1, c2, c3, c4, c5, c6, c7, c8, c9, c10⟩
theorem age_u64 {e : En} {now : Int} (hr : U64 e.t) (hn : U64 now) : 0 ≤ age e now ∧ age e now < 18446744073709551616 := by
  unfold age U64 at *
  split <;> omega

set_option maxRecDepth 100000 in
set_option maxHeartbeats 1000000 in
theorem xage_any (x : Xe) (now : Int) (hr : U64 x.e.t) (hn : U64 now) (w : World) : Calls Try.prog 34 #[x.val, .int .u64 now] w fun e w' => e = .returned (.int .u64 (age x.e now)) ∧ Below w.heap.size w w' := by
  have HB := Lib.hid ((Below.refl _ w).alloc (Nat.le_refl _) x.obj)
  obtain ⟨_, _, _, _, _, _, _, _, hc, _⟩ := (XAt.new w x).flat
  unfold U64 at hr hn
  obtain ⟨a, ha⟩ : ∃ a, age x.e now = a := ⟨_, rfl⟩
  rw [ha]
  have Ha := Lib.hid ha
  clear ha
  obtain ⟨⟨ip, kn, ⟨a1, a2, a3, a4, a5, a6⟩, t, tr, pk⟩, A, c⟩ := x
  unfold Xe.obj Xe.arr at HB hc
  unfold Xe.val Xe.arr
  simp only at hr HB hc ⊢
  generalize pk.length = n at HB hc ⊢
  by_cases hlt : now < t
  · have q1 : decide (now < t) = true := decide_eq_true hlt
    have HL := Lib.hid hlt
    clear hlt
    go_enter Try.func34, Try.ntmps34
    go_wp2_with fail
    go_ret
    refine ⟨?_, HB.out⟩
    rw [← Ha.out]
    have e := HL.out
    show Ending.returned (.int .u64 _) = Ending.returned (.int .u64 (if now < t then 0 else now - t))
    split
    all_goals first | rfl | omega
  · have q1 : decide (now < t) = false := decide_eq_false hlt
    have w1 : IntKind.u64.wrap (now - t) = now - t := by rw [IntKind.wrap_u64]; omega
    have HL := Lib.hid hlt
    clear hlt
    go_enter Try.func34, Try.ntmps34
    go_wp2_with fail
    go_ret
    refine ⟨?_, HB.out⟩
    rw [← Ha.out]
    have e := HL.out
    show Ending.returned (.int .u64 _) = Ending.returned (.int .u64 (if now < t then 0 else now - t))
    split
    all_goals first | rfl | omega

set_option maxRecDepth 100000 in
set_option maxHeartbeats 1000000 in
theorem xold_any (x : Xe) (now : Int) (hr : U64 x.e.t) (hn : U64 now) (w : World) : Calls Try.prog 27 #[x.val, .int .u64 now] w fun e w' => e = .returned (.bool (old x.e now)) ∧ Below w.heap.size w w' := by
  have HB := Lib.hid ((Below.refl _ w).alloc (Nat.le_refl _) x.obj)
  obtain ⟨c0, c1, c2, c3, c4, c5, c6, c7, c8, c9, c10⟩ := (XAt.new w x).flat
  have X := Lib.hid (fun W => xage_any x now hr hn W)
  obtain ⟨a, ha⟩ : ∃ a, age x.e now = a := ⟨_, rfl⟩
  have hu := age_u64 hr hn
  rw [ha] at X hu
  obtain ⟨o, ho⟩ : ∃ o, old x.e now = o := ⟨_, rfl⟩
  rw [ho]
  have Ho : Hid ((x.e.kn && decide (60 ≤ a)) = o) := Lib.hid (by rw [← ho, ← ha]; rfl)
  clear ha ho hr hn
  obtain ⟨⟨ip, kn, ⟨a1, a2, a3, a4, a5, a6⟩, t, tr, pk⟩, A, c⟩ := x
  unfold Xe.obj Xe.arr at HB c0 c1 c2 c3 c4 c5 c6 c7 c8 c9 c10
  unfold Xe.val Xe.arr at X ⊢
  simp only at HB X Ho c0 c1 c2 c3 c4 c5 c6 c7 c8 c9 c10 ⊢
  generalize pk.length = n at HB X c0 c1 c2 c3 c4 c5 c6 c7 c8 c9 c10 ⊢
  cases kn with
  | false =>
    obtain rfl : false = o := Ho.out
    go_enter Try.func27, Try.ntmps27
    go_wp2_with fail
    go_ret
    exact ⟨rfl, HB.out⟩
  | true =>
    obtain rfl : decide (60 ≤ a) = o := Ho.out
    go_enter Try.func27, Try.ntmps27
    go_wp2_with (go_at_call 34; (with_reducible refine (X.out _).mono ?_); rintro e w1 ⟨rfl, h1⟩; (have H1 := Lib.hid h1); clear h1)
    go_ret
    exact ⟨rfl, below_to HB.out H1.out (by simp)⟩

/-! ### find -/
/-- Where an address stands, or -1. -/
def Pos (P : List Xe) (ip z : Int) : Prop := (z = -1 ∧ ∀ y ∈ P, ¬ y.e.ip = ip) ∨ ∃ (k : Nat) (x : Xe), z = (k : Int) ∧ P[k]? = some x ∧ x.e.ip = ip
theorem pos_ex (P : List Xe) (ip : Int) : ∃ z, Pos P ip z := by
  by_cases h : ∃ y ∈ P, y.e.ip = ip
  · obtain ⟨y, hy, he⟩ := h
    obtain ⟨k, hk⟩ := List.getElem?_of_mem hy
    exact ⟨k, .inr ⟨k, y, rfl, hk, he⟩⟩
  · exact ⟨-1, .inl ⟨rfl, fun y hy he => h ⟨y, hy, he⟩⟩⟩
theorem Pos.one {P : List Xe} (hs : Srt (P.map Xe.e)) {ip z : Int} (h : Pos P ip z) {k : Nat} {x : Xe} (hk : P[k]? = some x) (hx : x.e.ip = ip) : z = (k : Int) := by
  rcases h with ⟨_, h⟩ | ⟨j, s, rfl, hj, hsj⟩
  · exact absurd hx (h x (List.mem_of_getElem? hk))
  · obtain ⟨h1, h2⟩ := List.getElem?_eq_some_iff.1 hk
    obtain ⟨h3, h4⟩ := List.getElem?_eq_some_iff.1 hj
    have hp : P.Pairwise (fun a b => a.e.ip < b.e.ip) := (List.pairwise_map (R := fun x y : En => x.ip < y.ip) (f := Xe.e)).1 hs
    rcases Nat.lt_trichotomy j k with e | e | e
    · have := List.pairwise_iff_getElem.1 hp j k h3 h1 e
      rw [h2, h4] at this
      omega
    · rw [e]
    · have := List.pairwise_iff_getElem.1 hp k j h1 h3 e
      rw [h2, h4] at this
      omega
theorem Pos.none {P : List Xe} {ip z : Int} (h : Pos P ip z) (hn : ∀ y ∈ P, ¬ y.e.ip = ip) : z = -1 := by
  rcases h with ⟨h, _⟩ | ⟨j, s, _, hj, hsj⟩
  · exact h
  · exact absurd hsj (hn s (List.mem_of_getElem? hj))

set_option maxRecDepth 100000 in
theorem rfind_any (P : List Xe) (hs : Srt (P.map Xe.e)) (h32 : P.length ≤ 32) (ip z : Int) (hz : Pos P ip z) (p : Nat) (A : Option Addr) (c : Nat) (hc : P.length ≤ c) (w : World)
    (hp : w.cell? ⟨p, 0, none⟩ = some (.slice A P.length c)) (hR : RowX w A P) :
    Calls Try.prog 26 #[.pointer (some ⟨p, 0, none⟩), .int .u32 ip] w fun e w' => e = .returned (.int .i64 z) ∧ w' = w := by
  have HZ := Lib.hid hz
  have HR := Lib.hid hR
  have HS := Lib.hid hs
  clear hz hR hs
  go_enter Try.func26, Try.ntmps26
  go_wp2_with fail
  go_loopw [5] (fun s5 wr => ∃ (k : Nat), s5 = .int .i64 (k : Int) ∧ k ≤ P.length ∧ (∀ r ∈ P.take k, ¬ r.e.ip = ip) ∧ wr = w) (fun s5 _ => P.length - (intOf s5).toNat)
  case atStart => exact ⟨0, rfl, Nat.zero_le _, by simp, rfl⟩
  case round =>
    obtain ⟨k, rfl, hk, hno, rfl⟩ := hrel
    by_cases hlt : k < P.length
    · have q1 : decide ((k : Int) < (P.length : Int)) = true := decide_eq_true (by omega)
      obtain ⟨t, ht⟩ : ∃ t, P[k]? = some t := ⟨P[k], List.getElem?_eq_getElem hlt⟩
      obtain ⟨g, o, rfl, hX⟩ := HR.out k t ht
      have c0 := hX.c0
      have HT := Lib.hid ht
      have HN := Lib.hid hno
      clear ht hno hX
      by_cases h1 : t.e.ip = ip
      · have q2 : (t.e.ip == ip) = true := beq_iff_eq.2 h1
        obtain rfl : z = (k : Int) := HZ.out.one HS.out HT.out h1
        clear h1
        go_wp2_with fail
        go_ret
        exact ⟨rfl, rfl⟩
      · have q2 : (t.e.ip == ip) = false := beq_eq_false_iff_ne.2 h1
        have HN2 : Hid (∀ r ∈ P.take (k + 1), ¬ r.e.ip = ip) := Lib.hid (fun r hr => by
          rw [List.take_add_one, HT.out, List.mem_append] at hr
          rcases hr with hr | hr
          · exact HN.out r hr
          · obtain rfl : r = t := by simpa using hr
            exact h1)
        clear h1
        go_wp2_with fail
        exact ⟨⟨k + 1, by simp, by omega, HN2.out, by simp⟩, by simp [intOf]; omega⟩
    · have q1 : decide ((k : Int) < (P.length : Int)) = false := decide_eq_false (by omega)
      obtain rfl : k = P.length := by omega
      obtain rfl : z = -1 := HZ.out.none (by rw [List.take_length] at hno; exact hno)
      clear hno
      go_wp2_with fail
      go_ret
      exact ⟨rfl, rfl⟩
theorem Rc.find {w : World} {p : Nat} {F : Nat → Prop} {v : Value} {P : List Xe} (h : Rc w p F v P) {ip z : Int} (hz : Pos P ip z) :
    Calls Try.prog 26 #[.pointer (some ⟨p, 0, none⟩), .int .u32 ip] w fun e w' => e = .returned (.int .i64 z) ∧ w' = w := by
  obtain ⟨A, c, rfl, h1, h2, h3, _⟩ := h.open
  exact rfind_any P h.srt h.few ip z hz p A c h1 w h.cell h3
theorem Pos.look_some {P : List Xe} (hs : Srt (P.map Xe.e)) {k : Nat} {x : Xe} (hk : P[k]? = some x) : look (P.map Xe.e) x.e.ip = some x.e :=
  look_mem hs (List.mem_map.2 ⟨x, List.mem_of_getElem? hk, rfl⟩) rfl
theorem Pos.look_none {P : List Xe} {ip : Int} (h : ∀ y ∈ P, ¬ y.e.ip = ip) : look (P.map Xe.e) ip = .none :=
  Go.Proofs.Ytfeipeninmclkaa.look_none.2 fun r hr => by
    obtain ⟨y, hy, rfl⟩ := List.mem_map.1 hr
    exact h y hy
end Go.Proofs.Ytfeipeninmclkaa
