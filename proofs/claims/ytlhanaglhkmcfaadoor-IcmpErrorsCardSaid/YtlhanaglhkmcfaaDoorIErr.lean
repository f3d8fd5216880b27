/-
  What is proved: icmp's isEcho, mayBeToldOf, beginning, MTU and bytes.Clone by contract.
  Conditions: the packet's and the message's numbers fit their types.
-/
import Derived.Test.YtlhanaglhkmcfaaDoorITop
import Derived.Test.YtlhanaglhkmcfaaDoorEBox
import Derived.Laws.Cover3
namespace Go.Proofs.YtlhanaglhkmcfaaDoor
open Go.RowKit

/-- Bytes of an echo, or of an answer to one, by their type. -/
def echo : List UInt8 → Bool
  | [] => false
  | b :: _ => decide (b.toNat = 8) || decide (b.toNat = 0)
set_option maxRecDepth 100000 in
set_option maxHeartbeats 2000000 in
theorem isEcho_any (l : List UInt8) (A : Option Addr) (c : Nat) (w : World) (hr : Rd w (.slice A l.length c) l) (hL : l.length ≤ 1099511627776) :
    Calls Tryd.prog 48 #[.slice A l.length c] w fun e w' => e = .returned (.bool (echo l)) ∧ w = w' := by
  match l, hr, hL with
  | [], _, _ =>
    show Calls _ _ #[.slice A 0 c] _ _
    have e : echo [] = false := rfl
    rw [e]
    go_enter Tryd.func48, Tryd.ntmps48
    go_wp2_with fail
    go_ret
    exact ⟨rfl, rfl⟩
  | b :: r, hr, hL =>
    obtain ⟨A', c', e, _, hi⟩ := hr
    cases e
    obtain ⟨g, o, rfl, hi2⟩ := hi (by simp)
    have k0 : w.cell? ⟨g, o, none⟩ = some (.int .u8 (b.toNat : Int)) := hi2 0 b rfl
    have e : echo (b :: r) = (decide (b.toNat = 8) || decide (b.toNat = 0)) := rfl
    rw [e]
    generalize b.toNat = z at *
    have n0 : 0 < (b :: r).length := by simp
    clear hi hi2
    generalize (b :: r).length = n at *
    have n1 : (0 : Int) < (n : Int) := by omega
    by_cases h8 : z = 8
    · subst h8
      have e : (decide (8 = 8) || decide (8 = 0)) = true := by decide
      rw [e]
      clear e n0
      go_enter Tryd.func48, Tryd.ntmps48
      go_wp2_with fail
      go_ret
      exact ⟨rfl, rfl⟩
    · have h8' : ((z : Int) == 8) = false := by simp; omega
      by_cases h0 : z = 0
      · subst h0
        have e : (decide (0 = 8) || decide (0 = 0)) = true := by decide
        rw [e]
        clear e n0 h8 h8'
        go_enter Tryd.func48, Tryd.ntmps48
        go_wp2_with fail
        go_ret
        exact ⟨rfl, rfl⟩
      · have h0' : ((z : Int) == 0) = false := by simp; omega
        have e : (decide (z = 8) || decide (z = 0)) = false := by simp [h8, h0]
        rw [e]
        clear e n0 h8 h0
        go_enter Tryd.func48, Tryd.ntmps48
        go_wp2_with fail
        go_ret
        exact ⟨rfl, rfl⟩
/-- A packet of which its sender may be told. -/
def Ip.tell (p : Ip) : Bool := decide (p.off = 0) && (decide (p.proto ≠ 1) || echo p.b)
set_option maxRecDepth 100000 in
set_option maxHeartbeats 2000000 in
theorem mayTell_any (p : Ip) (A : Option Addr) (c : Nat) (w : World) (hr : Rd w (.slice A p.b.length c) p.b) (hL : p.b.length ≤ 1099511627776) :
    Calls Tryd.prog 24 #[.agg #[.int .u8 p.tos, .int .u16 p.id, .bool p.df, .bool p.mf, .int .i64 p.off, .int .u8 p.ttl, .int .u8 p.proto, .int .u32 p.src, .int .u32 p.dst, .slice A p.b.length c]] w fun e w' => e = .returned (.bool p.tell) ∧ Below w.heap.size w w' := by
  have hb := below_al (Below.refl w.heap.size w) (p.obj (.slice A p.b.length c))
  have HE := Lib.hid (isEcho_any p.b A c (w.alloc (p.obj (.slice A p.b.length c))) (hr.below hb) hL)
  have HB := Lib.hid hb
  unfold Ip.obj at HE HB
  clear hb hr hL
  unfold Ip.tell
  by_cases ho : p.off = 0
  · rw [ho] at HE HB
    have e : decide (p.off = 0) = true := decide_eq_true ho
    rw [e, ho]
    clear e ho
    by_cases hp : p.proto = 1
    · rw [hp] at HE HB
      have e : (true && (decide (p.proto ≠ 1) || echo p.b)) = echo p.b := by simp [hp]
      rw [e, hp]
      clear e hp
      generalize echo p.b = t at *
      go_enter Tryd.func24, Tryd.ntmps24
      go_wp2_with fail
      refine HE.out.mono ?_
      rintro e w' ⟨rfl, rfl⟩
      go_wp2_with fail
      go_ret
      exact ⟨rfl, HB.out⟩
    · have h1 : ((p.proto : Int) != 1) = true := by simp; omega
      have h2 : ((p.proto : Int) == 1) = false := by simp; omega
      have e : (true && (decide (p.proto ≠ 1) || echo p.b)) = true := by simp [hp]
      rw [e]
      clear e hp
      go_enter Tryd.func24, Tryd.ntmps24
      go_wp2_with fail
      go_ret
      exact ⟨rfl, HB.out⟩
  · have h1 : (p.off == 0) = false := by simp [ho]
    have e : decide (p.off = 0) = false := decide_eq_false ho
    rw [e, Bool.false_and]
    clear e
    go_enter Tryd.func24, Tryd.ntmps24
    go_wp2_with fail
    go_ret
    exact ⟨rfl, HB.out⟩
set_option maxRecDepth 100000 in
set_option maxHeartbeats 2000000 in
theorem clone_any (l : List UInt8) (g o n c : Nat) (w : World) (hr : Rd w (.slice (some ⟨g, o, none⟩) n c) l) (hL : l.length ≤ 1099511627776) :
    Calls Tryd.prog 49 #[.slice (some ⟨g, o, none⟩) n c] w fun e w' => ∃ b k, e = .returned (.slice (some ⟨b, 0, none⟩) n k) ∧ w.heap.size ≤ b ∧ Rd w' (.slice (some ⟨b, 0, none⟩) n k) l ∧ Below w.heap.size w w' := by
  have hn : n = l.length := by obtain ⟨A', c', e, _⟩ := hr; cases e; rfl
  subst hn
  obtain ⟨g2, k2, w2, run2, m2, _, _, _⟩ := (Mine.first (Below.refl w.heap.size w)).append l (.slice (some ⟨g, o, none⟩) l.length c) (hr.below (below_al (Below.refl _ _) _)) (by simpa using hL)
  have E2 : Hid ((Builtin.append_ #[23, 23] 23 #[.slice (some ⟨w.heap.size, 0, none⟩) 0 0, .slice (some ⟨g, o, none⟩) l.length c]).run Tryd.prog (w.alloc (.cells #[] 5)) = .ok (.slice (some ⟨g2, 0, none⟩) l.length k2) w2) := run2
  have HM := Lib.hid m2
  have hcmp : ∀ W, (binOp .eql 23 (.slice (some ⟨g, o, none⟩) l.length c) (.slice none 0 0)).run Tryd.prog W = .ok (.bool false) W := fun W => by
    have h1 := run_equal_slice_nil (P := Tryd.prog) W 23 _ (some ⟨g, o, none⟩) l.length c Tryd.underlying23
    simp only [binOp]
    simp [h1]
  clear run2 m2 hr hL
  go_enter Tryd.func49, Tryd.ntmps49
  go_wp2_with (at_builtin; refine wpList_append_eq rfl (.tmp 5) (.tmp 6) 23 rfl _ _ rfl rfl _ _ E2.out ?_)
  go_ret
  exact ⟨g2, k2, rfl, HM.out.new, HM.out.rd, HM.out.old⟩
set_option maxRecDepth 100000 in
set_option maxHeartbeats 2000000 in
theorem beginning_any (p : Ip) (A : Option Addr) (c : Nat) (l : List UInt8) (g n C : Nat) (w : World) (hr : Rd w (.slice (some ⟨g, 0, none⟩) n C) l) (hL : l.length ≤ 1099511627776) (hn : 20 + min p.b.length 8 ≤ l.length) :
    Calls Tryd.prog 25 #[.slice (some ⟨g, 0, none⟩) n C, .agg #[.int .u8 p.tos, .int .u16 p.id, .bool p.df, .bool p.mf, .int .i64 p.off, .int .u8 p.ttl, .int .u8 p.proto, .int .u32 p.src, .int .u32 p.dst, .slice A p.b.length c]] w
      fun e w' => ∃ b k, e = .returned (.slice (some ⟨b, 0, none⟩) (20 + min p.b.length 8) k) ∧ w.heap.size ≤ b ∧ Rd w' (.slice (some ⟨b, 0, none⟩) (20 + min p.b.length 8) k) (l.take (20 + min p.b.length 8)) ∧ Below w.heap.size w w' := by
  have hlen : n = l.length ∧ n ≤ C := by obtain ⟨A', c', e, h, _⟩ := hr; cases e; exact ⟨rfl, h⟩
  have hb := below_al (Below.refl w.heap.size w) (p.obj (.slice A p.b.length c))
  have hf := (hr.below hb).frontAt (K := 20 + min p.b.length 8) hn
  have HX := Lib.hid (clone_any _ g 0 _ _ _ hf (by rw [List.length_take]; omega))
  have HB := Lib.hid hb
  unfold Ip.obj at HX HB
  obtain ⟨K, hK⟩ : ∃ K, min p.b.length 8 = K := ⟨_, rfl⟩
  obtain ⟨T, hT⟩ : ∃ T, 20 + K = T := ⟨_, rfl⟩
  have hmin : ∀ W, (Builtin.min_ #[3, 3] 3 #[.int .i64 (p.b.length : Int), .int .i64 8]).run Tryd.prog W = .ok (.int .i64 (K : Int)) W := fun W => min_run (P := Tryd.prog) #[3, 3] 3 _ 8 _ (by omega) W
  rw [hK] at hn HX ⊢
  rw [hT] at hn HX ⊢
  have hw : IntKind.i64.wrap (20 + (K : Int)) = (T : Int) := by rw [IntKind.wrap_i64]; omega
  have i3 : (T : Int) ≤ (C : Int) := by omega
  have i4 : ¬ C < T := by omega
  clear hf hb hr hL hn hK hT hlen
  generalize p.b.length = pl at *
  go_enter Tryd.func25, Tryd.ntmps25
  go_wp2_with fail
  refine HX.out.mono ?_
  rintro e w' ⟨b, k, rfl, h1, h2, h3⟩
  have HY := Lib.hid (And.intro h1 (And.intro h2 h3))
  clear h1 h2 h3
  go_wp2_with fail
  go_ret
  have h1 := HY.out.1
  rw [World.size_alloc] at h1
  exact ⟨b, k, rfl, by omega, HY.out.2.1, below_to HB.out HY.out.2.2 HB.out.size⟩
/-- The MTU that a message tells. -/
def Ms.mtu (m : Ms) : Nat := if m.typ = 3 ∧ m.code = 4 then m.rest % 65536 else 0
def Ms.isMtu (m : Ms) : Bool := decide (m.typ = 3) && decide (m.code = 4)
theorem and_low_u32 (n : Nat) (hn : n < 4294967296) : bits .and .u32 (n : Int) 65535 = ((n % 65536 : Nat) : Int) := by
  have h := u32_and_nat n 65535 hn (by decide)
  rw [show (65535 : Nat) = 2 ^ 16 - 1 from rfl, Nat.and_two_pow_sub_one_eq_mod] at h
  exact h
set_option maxRecDepth 100000 in
set_option maxHeartbeats 2000000 in
theorem mtu_any (m : Ms) (hr4 : m.rest < 4294967296) (bv : Value) (w : World) :
    Calls Tryd.prog 12 #[.agg #[.int .u8 m.typ, .int .u8 m.code, .int .u32 m.rest, bv]] w fun e w' => e = .returned (.tuple #[.int .i64 (m.mtu : Int), .bool m.isMtu]) ∧ Below w.heap.size w w' := by
  have HB := Lib.hid (below_al (Below.refl w.heap.size w) (m.obj bv))
  unfold Ms.obj at HB
  unfold Ms.mtu Ms.isMtu
  have a1 := and_low_u32 m.rest hr4
  obtain ⟨R, hR⟩ : ∃ R, m.rest % 65536 = R := ⟨_, rfl⟩
  rw [hR] at a1
  have h2 : IntKind.i64.wrap (R : Int) = (R : Int) := by rw [IntKind.wrap_i64]; omega
  by_cases h3 : m.typ = 3
  · by_cases h4 : m.code = 4
    · rw [h3, h4] at HB
      rw [if_pos ⟨h3, h4⟩, decide_eq_true h3, decide_eq_true h4, h3, h4, hR]
      clear h3 h4 hR hr4
      go_enter Tryd.func12, Tryd.ntmps12
      go_wp2_with fail
      go_ret2
      exact ⟨rfl, HB.out⟩
    · rw [h3] at HB
      rw [if_neg (fun h => h4 h.2), decide_eq_true h3, decide_eq_false h4, h3]
      have k1 : ((m.code : Int) != 4) = true := by simp; omega
      have k2 : ((m.code : Int) == 4) = false := by simp; omega
      clear h3 h4 hR hr4 a1 h2
      go_enter Tryd.func12, Tryd.ntmps12
      go_wp2_with fail
      go_ret2
      exact ⟨rfl, HB.out⟩
  · rw [if_neg (fun h => h3 h.1), decide_eq_false h3]
    have k1 : ((m.typ : Int) != 3) = true := by simp; omega
    have k2 : ((m.typ : Int) == 3) = false := by simp; omega
    clear h3 hR hr4 a1 h2
    go_enter Tryd.func12, Tryd.ntmps12
    go_wp2_with fail
    go_ret2
    exact ⟨rfl, HB.out⟩
end Go.Proofs.YtlhanaglhkmcfaaDoor
