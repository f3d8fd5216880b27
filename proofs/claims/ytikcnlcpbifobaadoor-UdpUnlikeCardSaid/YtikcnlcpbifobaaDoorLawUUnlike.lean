/-
  What is proved: UdpUnlike' function by contract: it returns true and leaves all older memory as it was.
  Conditions: errors.errorType holds the handle of the type error; the datagrams' numbers fit their types.
-/
import Derived.Test.YtikcnlcpbifobaaDoorUOf
import Derived.Test.YtikcnlcpbifobaaDoorLawUSizes
namespace Go.Proofs.YtikcnlcpbifobaaDoor
open Go.RowKit

set_option maxRecDepth 100000 in
set_option maxHeartbeats 8000000 in
theorem udpUnlike_any (d0 : Dg) (A0 : Option Addr) (c0 : Nat) (d1 : Dg) (A1 : Option Addr) (c1 : Nat) (n2 : Nat) (n3 : Nat) (w : World) (hg : Hdl w) (hf0 : d0.Fit) (hr0 : Rd w (.slice A0 d0.b.length c0) d0.b) (_hc0 : c0 ≤ 9223372036854775807)
    (hf1 : d1.Fit) (hr1 : Rd w (.slice A1 d1.b.length c1) d1.b) (_hc1 : c1 ≤ 9223372036854775807) (_h2 : n2 < 4294967296) (_h3 : n3 < 4294967296) :
    Calls Tryd.prog 5 #[d0.val (.slice A0 d0.b.length c0), d1.val (.slice A1 d1.b.length c1), .int .u32 (n2 : Int), .int .u32 (n3 : Int)] w fun e w' => e = .returned (.bool true) ∧ Below w.heap.size w w' := by
  have b2 := below_al (below_al (Below.refl w.heap.size w) (d0.obj (.slice A0 d0.b.length c0))) (d1.obj (.slice A1 d1.b.length c1))
  have HS := Lib.hid (uShown_any _ (hg.below b2))
  have HX0 : Hid (DgAt ((w.alloc (d0.obj (.slice A0 d0.b.length c0))).alloc (d1.obj (.slice A1 d1.b.length c1))) w.heap.size d0.few (.slice A0 d0.b.length c0)) := (DgAt.new w d0 (.slice A0 d0.b.length c0)).below (below_al (Below.refl _ _) _)
  have HX1 : Hid (DgAt ((w.alloc (d0.obj (.slice A0 d0.b.length c0))).alloc (d1.obj (.slice A1 d1.b.length c1))) (w.heap.size + 1) d1.few (.slice A1 d1.b.length c1)) := by
    have h := DgAt.new (w.alloc (d0.obj (.slice A0 d0.b.length c0))) d1 (.slice A1 d1.b.length c1)
    rwa [World.size_alloc] at h
  have HB := Lib.hid b2
  have HRP := Lib.hid (Dg.few_rd hr0)
  have HRQ := Lib.hid (Dg.few_rd hr1)
  have HLEN0 := Lib.hid d0.few_len
  have HLEN1 := Lib.hid d1.few_len
  have HCAP0 := Lib.hid (Dg.few_cap hr0)
  have HCAP1 := Lib.hid (Dg.few_cap hr1)
  have HIP := Lib.hid (Dg.few_in hf0)
  have HIQ := Lib.hid (Dg.few_in hf1)
  have HNP := Lib.hid d0.few_n
  have HNQ := Lib.hid d1.few_n
  clear hg b2 hf0 hf1 hr0 hr1
  rw [Dg.val_lit, Dg.val_lit]
  have e0 : d0.src = d0.few.src ∧ d0.dst = d0.few.dst ∧ d0.plain = d0.few.plain := ⟨rfl, rfl, rfl⟩
  have e1 : d1.src = d1.few.src ∧ d1.dst = d1.few.dst ∧ d1.plain = d1.few.plain := ⟨rfl, rfl, rfl⟩
  unfold Dg.obj at HS
  generalize hW : ((w.alloc (d0.obj (.slice A0 d0.b.length c0))).alloc (d1.obj (.slice A1 d1.b.length c1))) = W0 at HX0 HX1 HB
  unfold Dg.obj at hW
  rw [hW] at HS
  rw [e0.1, e0.2.1, e0.2.2, e1.1, e1.2.1, e1.2.2] at hW ⊢
  clear e0 e1
  generalize d0.few = p at *
  generalize d1.few = q at *
  go_enter Tryd.func5, Tryd.ntmps5
  go_upto_region 1 with fail
  (try rw [hW])
  clear hW
  go_wp2_with fail
  refine HS.out.mono ?_
  rintro e w1 ⟨rfl, hl⟩
  have HX0N := Lib.hid (HX0.out.below hl)
  have HX1N := Lib.hid (HX1.out.below hl)
  have HBN := Lib.hid (below_to HB.out hl HB.out.size)
  clear HS hl HB HX0 HX1
  have HB := HBN
  have HX0 := HX0N
  have HX1 := HX1N
  clear HBN HX0N HX1N
  go_upto_region 2 with fail
  obtain ⟨M0, hM0⟩ : ∃ M : Int, ((d0.b.length : Nat) : Int) = M := ⟨_, rfl⟩
  obtain ⟨K0, hK0⟩ : ∃ K : Int, ((p.b.length : Nat) : Int) = K := ⟨_, rfl⟩
  have hx0 : (p.b.length : Nat) = min d0.b.length 3000 := HLEN0.out
  have hmin0 : ∀ W, (Builtin.min_ #[3, 3] 3 #[.int .i64 M0, .int .i64 3000]).run Tryd.prog W = .ok (.int .i64 K0) W := fun W => min_run (P := Tryd.prog) #[3, 3] 3 M0 3000 K0 (by omega) W
  have i1 : 0 ≤ K0 := by omega
  have i2 : ¬ K0 < 0 := by omega
  have i3 : K0 ≤ (c0 : Int) := by have := HCAP0.out; omega
  have i4 : K0.toNat = p.b.length := by omega
  clear hx0 hK0
  have k3 := HX0.out.cells.2.2.2
  have z3 := HX0.out.free 3
  go_upto_region 3 with fail
  have HXN : Hid (DgAt (w1.setCell ⟨w.heap.size, 3, none⟩ (.slice A0 p.b.length c0)) w.heap.size p (.slice A0 p.b.length c0)) := HX0.out.set3 _
  have HBN : Hid (Below w.heap.size w (w1.setCell ⟨w.heap.size, 3, none⟩ (.slice A0 p.b.length c0))) := HB.out.setCell (p := ⟨w.heap.size, 3, none⟩) (Nat.le_refl _) _
  have HX1N : Hid (DgAt (w1.setCell ⟨w.heap.size, 3, none⟩ (.slice A0 p.b.length c0)) (w.heap.size + 1) q (.slice A1 d1.b.length c1)) := set_block HX1.out (by omega) _
  clear hM0 hmin0 i1 i2 i3 i4 k3 z3 HX0 HB HX1
  generalize w1.setCell ⟨w.heap.size, 3, none⟩ (.slice A0 p.b.length c0) = W2 at *
  have HX0 := HXN
  have HB := HBN
  have HX1 := HX1N
  clear HXN HBN HX1N
  obtain ⟨M1, hM1⟩ : ∃ M : Int, ((d1.b.length : Nat) : Int) = M := ⟨_, rfl⟩
  obtain ⟨K1, hK1⟩ : ∃ K : Int, ((q.b.length : Nat) : Int) = K := ⟨_, rfl⟩
  have hx1 : (q.b.length : Nat) = min d1.b.length 3000 := HLEN1.out
  have hmin1 : ∀ W, (Builtin.min_ #[3, 3] 3 #[.int .i64 M1, .int .i64 3000]).run Tryd.prog W = .ok (.int .i64 K1) W := fun W => min_run (P := Tryd.prog) #[3, 3] 3 M1 3000 K1 (by omega) W
  have i1 : 0 ≤ K1 := by omega
  have i2 : ¬ K1 < 0 := by omega
  have i3 : K1 ≤ (c1 : Int) := by have := HCAP1.out; omega
  have i4 : K1.toNat = q.b.length := by omega
  clear hx1 hK1
  have k3 := HX1.out.cells.2.2.2
  have z3 := HX1.out.free 3
  go_upto_region 4 with fail
  have HXN : Hid (DgAt (W2.setCell ⟨(w.heap.size + 1), 3, none⟩ (.slice A1 q.b.length c1)) (w.heap.size + 1) q (.slice A1 q.b.length c1)) := HX1.out.set3 _
  have HBN : Hid (Below w.heap.size w (W2.setCell ⟨(w.heap.size + 1), 3, none⟩ (.slice A1 q.b.length c1))) := HB.out.setCell (p := ⟨(w.heap.size + 1), 3, none⟩) (Nat.le_succ _) _
  have HX0N : Hid (DgAt (W2.setCell ⟨(w.heap.size + 1), 3, none⟩ (.slice A1 q.b.length c1)) w.heap.size p (.slice A0 p.b.length c0)) := set_block HX0.out (by omega) _
  clear hM1 hmin1 i1 i2 i3 i4 k3 z3 HX1 HB HX0
  generalize W2.setCell ⟨(w.heap.size + 1), 3, none⟩ (.slice A1 q.b.length c1) = W3 at *
  have HX1 := HXN
  have HB := HBN
  have HX0 := HX0N
  clear HXN HBN HX0N
  obtain ⟨k0, k1, k2, k3⟩ := HX0.out.cells
  go_wp2_with fail
  refine (uBytes_ok p HIP.out (by have := HNP.out; omega) A0 c0 n2 n3 _ (HRP.out.below HB.out)).mono ?_
  rintro e w4 ⟨b, rfl, _, hy, hl⟩
  have HY0 := Lib.hid ((show BAt w4 b (p.bs n2 n3) from hy))
  have HX0N := Lib.hid (HX0.out.below hl)
  have HX1N := Lib.hid (HX1.out.below hl)
  have HBN := Lib.hid (below_to HB.out hl HB.out.size)
  clear hl HB HX0 HX1 hy k0 k1 k2 k3
  have HB := HBN
  have HX0 := HX0N
  have HX1 := HX1N
  clear HBN HX0N HX1N
  obtain ⟨k0, k1, k2, k3⟩ := HX1.out.cells
  go_wp2_with fail
  refine (uBytes_ok q HIQ.out (by have := HNQ.out; omega) A1 c1 n2 n3 _ (HRQ.out.below HB.out)).mono ?_
  rintro e w5 ⟨b', rfl, _, hy, hl⟩
  have HY1 := Lib.hid ((show BAt w5 b' (q.bs n2 n3) from hy))
  have HX0N := Lib.hid (HX0.out.below hl)
  have HX1N := Lib.hid (HX1.out.below hl)
  have HY0N := Lib.hid (HY0.out.below hl)
  have HBN := Lib.hid (below_to HB.out hl HB.out.size)
  clear hl HB HX0 HX1 HY0 hy k0 k1 k2 k3
  have HB := HBN
  have HX0 := HX0N
  have HX1 := HX1N
  have HY0 := HY0N
  clear HBN HX0N HX1N HY0N
  go_upto_region 6 with fail
  have CP : Hid (∀ W, Below w5.heap.size w5 W → (convert 22 9 (.slice (some ⟨b, 0, none⟩) p.n p.n)).run Tryd.prog W = .ok (.string (txt (p.bs n2 n3))) W) := fun W h => by
    have k := convert_rd (HY0.out.below h).rd
    rw [p.bs_len] at k
    exact k
  have CQ : Hid (∀ W, Below w5.heap.size w5 W → (convert 22 9 (.slice (some ⟨b', 0, none⟩) q.n q.n)).run Tryd.prog W = .ok (.string (txt (q.bs n2 n3))) W) := fun W h => by
    have k := convert_rd (HY1.out.below h).rd
    rw [q.bs_len] at k
    exact k
  have HTX := Lib.hid (bs_same HIP.out HIQ.out (by have := HNP.out; omega) (by have := HNQ.out; omega) n2 n3)
  have HEQ : Hid (∀ W, _) := fun W => refDg_eqB p q W
  obtain ⟨t, ht⟩ : ∃ t, dgB p q = t := ⟨_, rfl⟩
  rw [ht] at HTX HEQ
  have XP : Hid (∀ W, Below w5.heap.size w5 W → Calls Tryd.prog 12 #[.agg #[.int .u16 p.src, .int .u16 p.dst, .bool p.plain, .slice A0 p.b.length c0]] W fun e w' => e = .returned (.agg #[.int .u32 p.src, .int .u32 p.dst, .bool p.plain, .string (txt p.b)]) ∧ Below W.heap.size W w') := fun W h => uof_any p HIP.out A0 c0 W (HRP.out.below (below_to HB.out h HB.out.size))
  have XQ : Hid (∀ W, Below w5.heap.size w5 W → Calls Tryd.prog 12 #[.agg #[.int .u16 q.src, .int .u16 q.dst, .bool q.plain, .slice A1 q.b.length c1]] W fun e w' => e = .returned (.agg #[.int .u32 q.src, .int .u32 q.dst, .bool q.plain, .string (txt q.b)]) ∧ Below W.heap.size W w') := fun W h => uof_any q HIQ.out A1 c1 W (HRQ.out.below (below_to HB.out h HB.out.size))
  have KS : Hid (∀ W, Below w5.heap.size w5 W → W.cell? ⟨w.heap.size, 0, none⟩ = some (.int .u16 p.src) ∧ W.cell? ⟨w.heap.size, 1, none⟩ = some (.int .u16 p.dst) ∧ W.cell? ⟨w.heap.size, 2, none⟩ = some (.bool p.plain) ∧ W.cell? ⟨w.heap.size, 3, none⟩ = some (.slice A0 p.b.length c0) ∧ W.cell? ⟨(w.heap.size + 1), 0, none⟩ = some (.int .u16 q.src) ∧ W.cell? ⟨(w.heap.size + 1), 1, none⟩ = some (.int .u16 q.dst) ∧ W.cell? ⟨(w.heap.size + 1), 2, none⟩ = some (.bool q.plain) ∧ W.cell? ⟨(w.heap.size + 1), 3, none⟩ = some (.slice A1 q.b.length c1) ∧ (convert 22 9 (.slice (some ⟨b, 0, none⟩) p.n p.n)).run Tryd.prog W = .ok (.string (txt (p.bs n2 n3))) W ∧ (convert 22 9 (.slice (some ⟨b', 0, none⟩) q.n q.n)).run Tryd.prog W = .ok (.string (txt (q.bs n2 n3))) W) := fun W h => by
    obtain ⟨e0, e1, e2, e3⟩ := (HX0.out.below h).cells
    obtain ⟨f0, f1, f2, f3⟩ := (HX1.out.below h).cells
    exact ⟨e0, e1, e2, e3, f0, f1, f2, f3, CP.out W h, CQ.out W h⟩
  have HT := HTX.out
  have HE := HEQ.out
  clear CP CQ
  generalize txt (p.bs n2 n3) = tp at *
  generalize txt (q.bs n2 n3) = tq at *
  generalize txt p.b = up at *
  generalize txt q.b = uq at *
  have HNS : Hid (w.heap.size ≤ w5.heap.size) := HB.out.size
  clear ht HX0 HX1 HY0 HY1 HRP HRQ HTX HEQ
  generalize hn : w.heap.size = n at *
  have HW := Lib.hid hn
  clear hn
  generalize hP : p.n = m0 at *
  generalize hQ : q.n = m1 at *
  clear hP hQ HNP HNQ
  cases t
  all_goals
    go_region_held_law (fun W => W.cell? ⟨n, 0, none⟩ = some (.int .u16 p.src) ∧ W.cell? ⟨n, 1, none⟩ = some (.int .u16 p.dst) ∧ W.cell? ⟨n, 2, none⟩ = some (.bool p.plain) ∧ W.cell? ⟨n, 3, none⟩ = some (.slice A0 p.b.length c0) ∧ W.cell? ⟨(n + 1), 0, none⟩ = some (.int .u16 q.src) ∧ W.cell? ⟨(n + 1), 1, none⟩ = some (.int .u16 q.dst) ∧ W.cell? ⟨(n + 1), 2, none⟩ = some (.bool q.plain) ∧ W.cell? ⟨(n + 1), 3, none⟩ = some (.slice A1 q.b.length c1) ∧ (convert 22 9 (.slice (some ⟨b, 0, none⟩) m0 m0)).run Tryd.prog W = .ok (.string tp) W ∧ (convert 22 9 (.slice (some ⟨b', 0, none⟩) m1 m1)).run Tryd.prog W = .ok (.string tq) W)
      (first | assumption | exact KS.out _ (below_drew w5) | exact KS.out _ H9.out | exact KS.out _ H10.out)
      (first
        | (go_at_call 12; (with_reducible refine (XP.out _ (below_drew w5)).mono ?_); rintro e w9 ⟨rfl, hl9⟩; (have H9 := Lib.hid ((below_drew w5).trans hl9)); clear hl9)
        | (go_at_call 12; (with_reducible refine (XQ.out _ H9.out).mono ?_); rintro e w10 ⟨rfl, hl10⟩; (have H10 := Lib.hid (below_to H9.out hl10 H9.out.size)); clear hl10))
  all_goals (go_wp2_with fail)
  all_goals go_ret
  all_goals exact ⟨rfl, by rw [HW.out]; exact below_to HB.out H10.out HNS.out⟩
end Go.Proofs.YtikcnlcpbifobaaDoor
