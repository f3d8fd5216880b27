/-
  What is proved: '==' on ARP packets.
  Conditions: none of its own.
-/
import Derived.Test.YthinmonahnbkdaaDoorAPkt
namespace Go.Proofs.YthinmonahnbkdaaDoor
open Go.RowKit

theorem mac_eqD (k : Nat) (a0 a1 a2 a3 a4 a5 b0 b1 b2 b3 b4 b5 : Int) (w : World) : (Op.equalIn (k + 2) 25 (.agg #[.int .u8 a0, .int .u8 a1, .int .u8 a2, .int .u8 a3, .int .u8 a4, .int .u8 a5]) (.agg #[.int .u8 b0, .int .u8 b1, .int .u8 b2, .int .u8 b3, .int .u8 b4, .int .u8 b5])).run Tryd.prog w =
    .ok (a0 == b0 && (a1 == b1 && (a2 == b2 && (a3 == b3 && (a4 == b4 && a5 == b5))))) w := by
  have u5 := Tryd.underlying5
  have g5 := Tryd.isAgg5
  have z5 := Tryd.sizeOf5
  rw [show k + 2 = (k + 1) + 1 from rfl, Op.equalIn]
  simp only [Sem.run_bind, run_underlying Tryd.underlying25, Result.andThen_ok]
  simp only [Std.Legacy.Range.forIn_eq_forIn_range', Std.Legacy.Range.size, Nat.sub_zero, Nat.add_sub_cancel, Nat.div_one, List.range'_succ, List.range'_zero, List.forIn_cons, List.forIn_nil]
  go_simp
  by_cases h0 : a0 = b0
  · by_cases h1 : a1 = b1
    · by_cases h2 : a2 = b2
      · by_cases h3 : a3 = b3
        · by_cases h4 : a4 = b4
          · by_cases h5 : a5 = b5 <;> simp [h0, h1, h2, h3, h4, h5]
          · simp [h0, h1, h2, h3, h4]
        · simp [h0, h1, h2, h3]
      · simp [h0, h1, h2]
    · simp [h0, h1]
  · simp [h0]
set_option maxRecDepth 100000 in
theorem pkt_eqI (o1 a0 a1 a2 a3 a4 a5 s1 c0 c1 c2 c3 c4 c5 t1 o2 b0 b1 b2 b3 b4 b5 s2 d0 d1 d2 d3 d4 d5 t2 : Int) (w : World) : (Op.equalIn 10000 29 (.agg #[.int .u16 o1, .int .u8 a0, .int .u8 a1, .int .u8 a2, .int .u8 a3, .int .u8 a4, .int .u8 a5, .int .u32 s1, .int .u8 c0, .int .u8 c1, .int .u8 c2, .int .u8 c3, .int .u8 c4, .int .u8 c5, .int .u32 t1]) (.agg #[.int .u16 o2, .int .u8 b0, .int .u8 b1, .int .u8 b2, .int .u8 b3, .int .u8 b4, .int .u8 b5, .int .u32 s2, .int .u8 d0, .int .u8 d1, .int .u8 d2, .int .u8 d3, .int .u8 d4, .int .u8 d5, .int .u32 t2])).run Tryd.prog w =
    .ok (o1 == o2 && ((a0 == b0 && (a1 == b1 && (a2 == b2 && (a3 == b3 && (a4 == b4 && a5 == b5))))) && (s1 == s2 && ((c0 == d0 && (c1 == d1 && (c2 == d2 && (c3 == d3 && (c4 == d4 && c5 == d5))))) && t1 == t2)))) w := by
  have u1 := Tryd.underlying23
  have u2 := Tryd.underlying27
  have u3 := Tryd.underlying25
  have a1 := Tryd.isAgg23
  have a2 := Tryd.isAgg27
  have a3 := Tryd.isAgg25
  have z1 := Tryd.sizeOf23
  have z2 := Tryd.sizeOf27
  have z3 := Tryd.sizeOf25
  have hS : Tryd.prog.underlying 29 = some (.struct (Tryd.prog.fieldsOf 29)) := by kernel_rfl
  have hp : Tryd.prog.stoodInHeld 29 = false := by kernel_rfl
  rw [show (10000 : Nat) = 9999 + 1 from rfl, run_equalIn_agg w 9999 29 _ _ hS hp]
  simp only [Program.fieldsOf, Tryd.underlying29]
  go_simp
  rw [show (9999 : Nat) = 9997 + 2 from rfl]
  simp only [mac_eqD, Result.andThen_ok]
  generalize (a0 == b0 && (_ && (_ && (_ && (_ && _))))) = X
  generalize (c0 == d0 && (_ && (_ && (_ && (_ && _))))) = Y
  by_cases h1 : o1 = o2
  · by_cases h2 : s1 = s2
    · by_cases h3 : t1 = t2 <;> cases X <;> cases Y <;> simp [h1, h2, h3]
    · cases X <;> cases Y <;> simp [h1, h2]
  · simp [h1]
/-- '==' on addresses as the walk comes to it inside a packet. -/
def macB (m1 m2 : M6) : Bool := ((m1.a.toNat : Int) == m2.a.toNat && ((m1.b.toNat : Int) == m2.b.toNat && ((m1.c.toNat : Int) == m2.c.toNat && ((m1.d.toNat : Int) == m2.d.toNat && ((m1.e.toNat : Int) == m2.e.toNat && (m1.f.toNat : Int) == m2.f.toNat)))))
theorem mac_eq9 (m1 m2 : M6) (w : World) : (Op.equalIn 9999 25 (.agg #[.int .u8 m1.a.toNat, .int .u8 m1.b.toNat, .int .u8 m1.c.toNat, .int .u8 m1.d.toNat, .int .u8 m1.e.toNat, .int .u8 m1.f.toNat]) (.agg #[.int .u8 m2.a.toNat, .int .u8 m2.b.toNat, .int .u8 m2.c.toNat, .int .u8 m2.d.toNat, .int .u8 m2.e.toNat, .int .u8 m2.f.toNat])).run Tryd.prog w = .ok (macB m1 m2) w :=
  mac_eqD 9997 _ _ _ _ _ _ _ _ _ _ _ _ w
theorem macB_iff (m1 m2 : M6) : macB m1 m2 = true ↔ m1 = m2 := by
  obtain ⟨a0, a1, a2, a3, a4, a5⟩ := m1
  obtain ⟨b0, b1, b2, b3, b4, b5⟩ := m2
  have e : ∀ a b : UInt8, (a.toNat : Int) = b.toNat ↔ a = b := fun a b => ⟨fun h => UInt8.toNat_inj.1 (by omega), fun h => by rw [h]⟩
  simp [macB, e]
theorem mac_same9 (m : M6) (w : World) : (Op.equalIn 9999 25 (.agg #[.int .u8 m.a.toNat, .int .u8 m.b.toNat, .int .u8 m.c.toNat, .int .u8 m.d.toNat, .int .u8 m.e.toNat, .int .u8 m.f.toNat]) (.agg #[.int .u8 m.a.toNat, .int .u8 m.b.toNat, .int .u8 m.c.toNat, .int .u8 m.d.toNat, .int .u8 m.e.toNat, .int .u8 m.f.toNat])).run Tryd.prog w = .ok true w := by
  rw [mac_eq9, (macB_iff m m).2 rfl]
/-- '==' on packets as a Boolean. -/
def pktB (p q : Pkt) : Bool := (p.op : Int) == q.op && (((p.sha.a.toNat : Int) == q.sha.a.toNat && ((p.sha.b.toNat : Int) == q.sha.b.toNat && ((p.sha.c.toNat : Int) == q.sha.c.toNat && ((p.sha.d.toNat : Int) == q.sha.d.toNat && ((p.sha.e.toNat : Int) == q.sha.e.toNat && ((p.sha.f.toNat : Int) == q.sha.f.toNat)))))) && ((p.spa : Int) == q.spa && (((p.tha.a.toNat : Int) == q.tha.a.toNat && ((p.tha.b.toNat : Int) == q.tha.b.toNat && ((p.tha.c.toNat : Int) == q.tha.c.toNat && ((p.tha.d.toNat : Int) == q.tha.d.toNat && ((p.tha.e.toNat : Int) == q.tha.e.toNat && ((p.tha.f.toNat : Int) == q.tha.f.toNat)))))) && (p.tpa : Int) == q.tpa)))
theorem pkt_eq (p q : Pkt) (w : World) : (Op.equalIn 10000 29 (.agg #[.int .u16 p.op, .int .u8 p.sha.a.toNat, .int .u8 p.sha.b.toNat, .int .u8 p.sha.c.toNat, .int .u8 p.sha.d.toNat, .int .u8 p.sha.e.toNat, .int .u8 p.sha.f.toNat, .int .u32 p.spa, .int .u8 p.tha.a.toNat, .int .u8 p.tha.b.toNat, .int .u8 p.tha.c.toNat, .int .u8 p.tha.d.toNat, .int .u8 p.tha.e.toNat, .int .u8 p.tha.f.toNat, .int .u32 p.tpa]) (.agg #[.int .u16 q.op, .int .u8 q.sha.a.toNat, .int .u8 q.sha.b.toNat, .int .u8 q.sha.c.toNat, .int .u8 q.sha.d.toNat, .int .u8 q.sha.e.toNat, .int .u8 q.sha.f.toNat, .int .u32 q.spa, .int .u8 q.tha.a.toNat, .int .u8 q.tha.b.toNat, .int .u8 q.tha.c.toNat, .int .u8 q.tha.d.toNat, .int .u8 q.tha.e.toNat, .int .u8 q.tha.f.toNat, .int .u32 q.tpa])).run Tryd.prog w = .ok (pktB p q) w :=
  pkt_eqI _ _ _ _ _ _ _ _ _ _ _ _ _ _ _ _ _ _ _ _ _ _ _ _ _ _ _ _ _ _ w
theorem pktB_iff (p q : Pkt) : pktB p q = true ↔ p = q := by
  obtain ⟨o1, ⟨a0, a1, a2, a3, a4, a5⟩, s1, ⟨c0, c1, c2, c3, c4, c5⟩, t1⟩ := p
  obtain ⟨o2, ⟨b0, b1, b2, b3, b4, b5⟩, s2, ⟨d0, d1, d2, d3, d4, d5⟩, t2⟩ := q
  have e : ∀ a b : UInt8, (a.toNat : Int) = b.toNat ↔ a = b := fun a b => ⟨fun h => UInt8.toNat_inj.1 (by omega), fun h => by rw [h]⟩
  have en : ∀ a b : Nat, (a : Int) = b ↔ a = b := fun _ _ => by omega
  simp [pktB, e, en, and_assoc]
theorem pktB_same (p : Pkt) : pktB p p = true := (pktB_iff p p).2 rfl
end Go.Proofs.YthinmonahnbkdaaDoor
