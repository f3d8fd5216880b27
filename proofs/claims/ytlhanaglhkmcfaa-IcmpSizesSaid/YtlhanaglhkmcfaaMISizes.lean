/-
  What is proved: IcmpSizes' function by contract: it returns true and leaves all older memory as it was.
  Conditions: the packet's numbers fit their types.
  What is proved: rows of laws out of their functions' contracts.
  Conditions: the contracts, handed in.
  What is proved: IcmpSizes: for any packet, number, type and code the law returns true, and leaves its arguments as they were.
  Conditions: none.
-/
import Derived.Test.YtlhanaglhkmcfaaIOf
import Derived.Test.YtlhanaglhkmcfaaIShown
import Derived.Test.YtlhanaglhkmcfaaILift
namespace Go.Proofs.Ytlhanaglhkmcfaa
open Go.RowKit

theorem IpAt.set9 {W : World} {G : Nat} {d : Ip} {bv : Value} (h : IpAt W G d bv) (v : Value) : IpAt (W.setCell ⟨G, 9, none⟩ v) G d v := by
  have h' : W.heap[G]? = some (d.obj bv) := h
  unfold IpAt
  rw [heap_set, h']
  simp [Ip.obj]
theorem IpAt.set6 {W : World} {G : Nat} {d : Ip} {bv : Value} (h : IpAt W G d bv) (v : Nat) : IpAt (W.setCell ⟨G, 6, none⟩ (.int .u8 v)) G { d with proto := v } bv := by
  have h' : W.heap[G]? = some (d.obj bv) := h
  unfold IpAt
  rw [heap_set, h']
  simp [Ip.obj]
theorem IpAt.set4 {W : World} {G : Nat} {d : Ip} {bv : Value} (h : IpAt W G d bv) (v : Int) : IpAt (W.setCell ⟨G, 4, none⟩ (.int .i64 v)) G { d with off := v } bv := by
  have h' : W.heap[G]? = some (d.obj bv) := h
  unfold IpAt
  rw [heap_set, h']
  simp [Ip.obj]
/-- A packet cut at two thousand bytes. -/
def Ip.few2 (d : Ip) : Ip := { d with b := d.b.take 2000 }
theorem Ip.few2_len (d : Ip) : d.few2.b.length = min d.b.length 2000 := by show (d.b.take 2000).length = _; rw [List.length_take]; omega
theorem Ip.few2_in {d : Ip} (h : d.Fit) : d.few2.In := h.inn _ (by rw [List.length_take]; omega)
theorem Ip.few2_n (d : Ip) : d.few2.b.length ≤ 2000 := by have := d.few2_len; omega
theorem Ip.few2_rd {d : Ip} {A : Option Addr} {cap : Nat} {W : World} (h : Rd W (.slice A d.b.length cap) d.b) : Rd W (.slice A d.few2.b.length cap) d.few2.b := front_any h 2000
theorem Ip.few2_cap {d : Ip} {A : Option Addr} {cap : Nat} {W : World} (h : Rd W (.slice A d.b.length cap) d.b) : d.few2.b.length ≤ cap := by
  obtain ⟨A', c', e, hc, _⟩ := h
  simp only [Value.slice.injEq] at e
  rw [d.few2_len, e.2.2]
  omega
set_option maxRecDepth 100000 in
set_option maxHeartbeats 8000000 in
theorem icmpSizes_any (d0 : Ip) (A0 : Option Addr) (c0 : Nat) (n1 : Nat) (n2 : Nat) (n3 : Nat) (w : World) (hf0 : d0.Fit) (hr0 : Rd w (.slice A0 d0.b.length c0) d0.b) (_hc0 : c0 ≤ 9223372036854775807) (hn1 : n1 < 4294967296) (_hn2 : n2 < 256) (_hn3 : n3 < 256) :
    Calls Try.prog 5 #[d0.val (.slice A0 d0.b.length c0), .int .u32 (n1 : Int), .int .u8 (n2 : Int), .int .u8 (n3 : Int)] w fun e w' => e = .returned (.bool true) ∧ Below w.heap.size w w' := by
  have b2 := below_al (Below.refl w.heap.size w) (d0.obj (.slice A0 d0.b.length c0))
  have HS := Lib.hid (iShown_any (w.alloc (d0.obj (.slice A0 d0.b.length c0))))
  have HX0 : Hid (IpAt (w.alloc (d0.obj (.slice A0 d0.b.length c0))) w.heap.size d0.few2 (.slice A0 d0.b.length c0)) := IpAt.new w d0 (.slice A0 d0.b.length c0)
  have HB := Lib.hid b2
  have HRP := Lib.hid (Ip.few2_rd hr0)
  have HLEN0 := Lib.hid d0.few2_len
  have HCAP0 := Lib.hid (Ip.few2_cap hr0)
  have HIP := Lib.hid (Ip.few2_in hf0)
  have HNP := Lib.hid d0.few2_n
  have HN1 := Lib.hid hn1
  clear b2 hf0 hr0
  rw [Ip.val_lit]
  have e0 : d0.tos = d0.few2.tos ∧ d0.id = d0.few2.id ∧ d0.df = d0.few2.df ∧ d0.mf = d0.few2.mf ∧ d0.off = d0.few2.off ∧ d0.ttl = d0.few2.ttl ∧ d0.proto = d0.few2.proto ∧ d0.src = d0.few2.src ∧ d0.dst = d0.few2.dst := ⟨rfl, rfl, rfl, rfl, rfl, rfl, rfl, rfl, rfl⟩
  generalize hW : (w.alloc (d0.obj (.slice A0 d0.b.length c0))) = W0 at HX0 HB HS
  unfold Ip.obj at hW
  obtain ⟨e1, e2, e3, e4, e5, e6, e7, e8, e9⟩ := e0
  rw [e1, e2, e3, e4, e5, e6, e7, e8, e9] at hW ⊢
  clear e1 e2 e3 e4 e5 e6 e7 e8 e9
  generalize d0.few2 = p at *
  go_enter Try.func5, Try.ntmps5
  go_upto_region 1 with fail
  (try rw [hW])
  clear hW
  go_wp2_with fail
  refine HS.out.mono ?_
  rintro e w1 ⟨rfl, hl⟩
  have HX0N := Lib.hid (HX0.out.below hl)
  have HBN := Lib.hid (below_to HB.out hl HB.out.size)
  clear HS hl HB HX0
  have HB := HBN
  have HX0 := HX0N
  clear HBN HX0N
  go_upto_region 2 with fail
  obtain ⟨M0, hM0⟩ : ∃ M : Int, ((d0.b.length : Nat) : Int) = M := ⟨_, rfl⟩
  obtain ⟨K0, hK0⟩ : ∃ K : Int, ((p.b.length : Nat) : Int) = K := ⟨_, rfl⟩
  have hx0 : (p.b.length : Nat) = min d0.b.length 2000 := HLEN0.out
  have hmin0 : ∀ W, (Builtin.min_ #[3, 3] 3 #[.int .i64 M0, .int .i64 2000]).run Try.prog W = .ok (.int .i64 K0) W := fun W => min_run (P := Try.prog) #[3, 3] 3 M0 2000 K0 (by omega) W
  have i1 : 0 ≤ K0 := by omega
  have i2 : ¬ K0 < 0 := by omega
  have i3 : K0 ≤ (c0 : Int) := by have := HCAP0.out; omega
  have i4 : K0.toNat = p.b.length := by omega
  clear hx0 hK0
  have k9 := HX0.out.cells.2.2.2.2.2.2.2.2.2
  have z9 := HX0.out.free 9
  go_upto_region 3 with fail
  have HXN : Hid (IpAt (w1.setCell ⟨w.heap.size, 9, none⟩ (.slice A0 p.b.length c0)) w.heap.size p (.slice A0 p.b.length c0)) := HX0.out.set9 _
  have HBN : Hid (Below w.heap.size w (w1.setCell ⟨w.heap.size, 9, none⟩ (.slice A0 p.b.length c0))) := HB.out.setCell (p := ⟨w.heap.size, 9, none⟩) (Nat.le_refl _) _
  clear hM0 hmin0 i1 i2 i3 i4 k9 z9 HX0 HB
  generalize w1.setCell ⟨w.heap.size, 9, none⟩ (.slice A0 p.b.length c0) = W2 at *
  have HX0 := HXN
  have HB := HBN
  clear HXN HBN
  have k6 := HX0.out.cells.2.2.2.2.2.2.1
  have z6 := HX0.out.free 6
  go_upto_region 4 with fail
  have HXN : Hid (IpAt (W2.setCell ⟨w.heap.size, 6, none⟩ (.int .u8 17)) w.heap.size { p with proto := 17 } (.slice A0 p.b.length c0)) := HX0.out.set6 17
  have HBN : Hid (Below w.heap.size w (W2.setCell ⟨w.heap.size, 6, none⟩ (.int .u8 17))) := HB.out.setCell (p := ⟨w.heap.size, 6, none⟩) (Nat.le_refl _) _
  clear k6 z6 HX0 HB
  generalize W2.setCell ⟨w.heap.size, 6, none⟩ (.int .u8 17) = W3 at *
  have k4 := HXN.out.cells.2.2.2.2.1
  have z4 := HXN.out.free 4
  simp only at k4
  go_upto_region 5 with fail
  have HX0 : Hid (IpAt (W3.setCell ⟨w.heap.size, 4, none⟩ (.int .i64 0)) w.heap.size { p with proto := 17, off := 0 } (.slice A0 p.b.length c0)) := HXN.out.set4 0
  have HB : Hid (Below w.heap.size w (W3.setCell ⟨w.heap.size, 4, none⟩ (.int .i64 0))) := HBN.out.setCell (p := ⟨w.heap.size, 4, none⟩) (Nat.le_refl _) _
  clear k4 z4 HXN HBN
  generalize W3.setCell ⟨w.heap.size, 4, none⟩ (.int .i64 0) = W4 at *
  obtain ⟨q, hq⟩ : ∃ q : Ip, { p with proto := 17, off := 0 } = q := ⟨_, rfl⟩
  have HRQ : Hid (Rd w (.slice A0 q.b.length c0) q.b) := by rw [← hq]; exact HRP.out
  have HIQ : Hid q.In := by rw [← hq]; exact ⟨HIP.out.tos, HIP.out.id, ⟨by show (-9223372036854775808 : Int) ≤ 0; decide, by show (0 : Int) ≤ 9223372036854775807; decide⟩, HIP.out.ttl, by show 17 < 256; decide, HIP.out.src, HIP.out.dst, HIP.out.b⟩
  have HNQ : Hid (q.b.length ≤ 2000) := by rw [← hq]; exact HNP.out
  have HTE : Hid (q.tell = true) := by rw [← hq]; rfl
  have HLQ : Hid (q.b.length = p.b.length) := by show _ = _; rw [← hq]
  rw [hq] at HX0
  rw [← HLQ.out] at HX0
  obtain ⟨d0', d1, d2, d3, d4, d5, d6, d7, d8, d9⟩ := HX0.out.cells
  clear HRP HIP HNP hq HLQ
  by_cases hbad : q.bad = 0
  · have HBAD := Lib.hid hbad
    have HXB := Lib.hid (vBytes_ok q HIQ.out hbad A0 c0 W4 (HRQ.out.below HB.out))
    rw [Ip.val_lit] at HXB
    clear hbad
    go_wp2_with fail
    refine HXB.out.mono ?_
    rintro e w5 ⟨b, rfl, _, hy, hl⟩
    have HY := Lib.hid (show BAt w5 b q.bs from hy)
    have HB5 := Lib.hid (below_to HB.out hl HB.out.size)
    clear hy hl HXB HB HX0 d0' d1 d2 d3 d4 d5 d6 d7 d8 d9
    have XE : Hid (∀ (t c r : Int) (W : World), BAt W b q.bs → Calls Try.prog 11 #[.slice (some ⟨b, 0, none⟩) (20 + q.b.length) (20 + q.b.length), .int .u8 t, .int .u8 c, .int .u32 r] W fun e w' => ∃ b k, e = .returned (.tuple #[.agg #[.int .u8 t, .int .u8 c, .int .u32 r, .slice (some ⟨b, 0, none⟩) q.beg k], .nilIface]) ∧ W.heap.size ≤ b ∧ Rd w' (.slice (some ⟨b, 0, none⟩) q.beg k) (q.bs.take q.beg) ∧ Below W.heap.size W w') := fun t c r W h => by
      rw [← Ip.bs_len]
      exact iError_ok q HIQ.out HBAD.out HTE.out b _ t c r W h.rd (by have := HNQ.out; rw [Ip.bs_len]; omega)
    generalize q.beg = G at *
    obtain ⟨T, hT⟩ : ∃ T, txt (q.bs.take G) = T := ⟨_, rfl⟩
    have HTT := Lib.hid hT
    clear hT
    obtain ⟨N, hN⟩ : ∃ N, 20 + q.b.length = N := ⟨_, rfl⟩
    simp only [hN] at XE ⊢
    clear hN
    go_wp2_with fail
    refine (XE.out 3 4 (n1 : Int) w5 HY.out).mono ?_
    rintro e w6 ⟨bm, km, rfl, _, hrm, hl6⟩
    have hb7 := below_al (Below.refl w6.heap.size w6) (.cells #[.int .u8 3, .int .u8 4, .int .u32 (n1 : Int), .slice (some ⟨bm, 0, none⟩) G km] 25)
    have l7 := below_to hl6 hb7 hl6.size
    have HM7 : Hid (MsAt (w6.alloc (.cells #[.int .u8 3, .int .u8 4, .int .u32 (n1 : Int), .slice (some ⟨bm, 0, none⟩) G km] 25)) w6.heap.size ⟨3, 4, n1, []⟩ (.slice (some ⟨bm, 0, none⟩) G km)) := MsAt.new w6 ⟨3, 4, n1, []⟩ _
    have HR7 := Lib.hid (hrm.below hb7)
    have HY7 := Lib.hid (HY.out.below l7)
    have HB7 := Lib.hid (below_to HB5.out l7 HB5.out.size)
    clear hrm hl6 hb7 l7 HY HB5
    go_upto_region 9 with fail
    generalize w6.alloc (.cells #[.int .u8 3, .int .u8 4, .int .u32 (n1 : Int), .slice (some ⟨bm, 0, none⟩) G km] 25) = W7 at *
    generalize w6.heap.size = g7 at *
    obtain ⟨c0', c1, c2, c3⟩ := HM7.out.cells
    simp only at c0' c1 c2 c3
    obtain ⟨R, hR⟩ : ∃ R : Nat, n1 % 65536 = R := ⟨_, rfl⟩
    have X5 : Hid (Calls Try.prog 12 #[.agg #[.int .u8 3, .int .u8 4, .int .u32 (n1 : Int), .slice (some ⟨bm, 0, none⟩) G km]] W7 fun e w' => e = .returned (.tuple #[.int .i64 (R : Int), .bool true]) ∧ Below W7.heap.size W7 w') := by
      have k := mtu_any ⟨3, 4, n1, []⟩ HN1.out (.slice (some ⟨bm, 0, none⟩) G km) W7
      have e : Ms.mtu ⟨3, 4, n1, []⟩ = R := hR
      rw [e] at k
      exact k
    have r1 : (n1 : Int).tmod 65536 = (R : Int) := by rw [Int.tmod_eq_emod_of_nonneg (by omega)]; omega
    have r2 : (n1 : Int) % 65536 = (R : Int) := by omega
    have r3 : IntKind.i64.wrap (R : Int) = (R : Int) := by rw [IntKind.wrap_i64]; omega
    have r4 : IntKind.u32.wrap (R : Int) = (R : Int) := by
      have h1 : IntKind.u32.bits = 32 := rfl
      have h2 : IntKind.u32.signed = false := rfl
      simp [IntKind.wrap, h1, h2]
      omega
    clear hR
    go_wp2_with fail
    refine X5.out.mono ?_
    rintro e w8 ⟨rfl, hl8⟩
    have HM8 := Lib.hid (HM7.out.below hl8)
    have HR8 := Lib.hid (HR7.out.below hl8)
    have HY8 := Lib.hid (HY7.out.below hl8)
    have HB8 := Lib.hid (below_to HB7.out hl8 HB7.out.size)
    clear c0' c1 c2 c3 hl8 HM7 HR7 HY7 HB7 X5
    go_wp2_with fail
    refine (XE.out (n2 : Int) (n3 : Int) (n1 : Int) w8 HY8.out).mono ?_
    rintro e w9 ⟨bx, kx, rfl, _, hrx, hl9⟩
    have hb10 := below_al (Below.refl w9.heap.size w9) (.cells #[.int .u8 (n2 : Int), .int .u8 (n3 : Int), .int .u32 (n1 : Int), .slice (some ⟨bx, 0, none⟩) G kx] 25)
    have l10 := below_to hl9 hb10 hl9.size
    have HX10 : Hid (MsAt (w9.alloc (.cells #[.int .u8 (n2 : Int), .int .u8 (n3 : Int), .int .u32 (n1 : Int), .slice (some ⟨bx, 0, none⟩) G kx] 25)) w9.heap.size ⟨n2, n3, n1, []⟩ (.slice (some ⟨bx, 0, none⟩) G kx)) := MsAt.new w9 ⟨n2, n3, n1, []⟩ _
    have HRX10 := Lib.hid (hrx.below hb10)
    have HM10 := Lib.hid (HM8.out.below l10)
    have HR10 := Lib.hid (HR8.out.below l10)
    have HB10 := Lib.hid (below_to HB8.out l10 HB8.out.size)
    clear hrx hl9 hb10 l10 HM8 HR8 HY8 HB8 XE
    go_upto_region 11 with fail
    generalize w9.alloc (.cells #[.int .u8 (n2 : Int), .int .u8 (n3 : Int), .int .u32 (n1 : Int), .slice (some ⟨bx, 0, none⟩) G kx] 25) = W10 at *
    generalize w9.heap.size = g10 at *
    obtain ⟨c0', c1, c2, c3⟩ := HX10.out.cells
    simp only at c0' c1 c2 c3
    have X6 : Hid (Calls Try.prog 12 #[.agg #[.int .u8 (n2 : Int), .int .u8 (n3 : Int), .int .u32 (n1 : Int), .slice (some ⟨bx, 0, none⟩) G kx]] W10 fun e w' => ∃ z : Int, e = .returned (.tuple #[.int .i64 z, .bool (decide (n2 = 3) && decide (n3 = 4))]) ∧ Below W10.heap.size W10 w') :=
      (mtu_any ⟨n2, n3, n1, []⟩ HN1.out (.slice (some ⟨bx, 0, none⟩) G kx) W10).mono fun e w' ⟨he, hl⟩ => ⟨_, he, hl⟩
    go_wp2_with fail
    refine X6.out.mono ?_
    rintro e w11 ⟨z, rfl, hl11⟩
    have HB11 := Lib.hid (below_to HB10.out hl11 HB10.out.size)
    clear c0' c1 c2 c3 X6
    obtain ⟨c0', c1, c2, c3⟩ := (HX10.out.below hl11).cells
    obtain ⟨m0, m1, m2, m3⟩ := (HM10.out.below hl11).cells
    simp only at c0' c1 c2 c3 m0 m1 m2 m3
    have cv1 : (convert 23 9 (.slice (some ⟨bm, 0, none⟩) G km)).run Try.prog w11 = .ok (.string T) w11 := by rw [← HTT.out]; exact convert_rd (HR10.out.below hl11)
    have cv2 : (convert 23 9 (.slice (some ⟨bx, 0, none⟩) G kx)).run Try.prog w11 = .ok (.string T) w11 := by rw [← HTT.out]; exact convert_rd (HRX10.out.below hl11)
    clear hl11 HX10 HM10 HR10 HRX10 HB10
    by_cases h3 : n2 = 3
    · have t1 : ((n2 : Int) == 3) = true := by simp; omega
      have t2 : decide (n2 = 3) = true := decide_eq_true h3
      by_cases h4 : n3 = 4
      · have t3 : ((n3 : Int) == 4) = true := by simp; omega
        have t4 : decide (n3 = 4) = true := decide_eq_true h4
        rw [t2, t4]
        clear h3 h4
        go_wp2_with fail
        go_ret
        exact ⟨rfl, HB11.out⟩
      · have t3 : ((n3 : Int) == 4) = false := by simp; omega
        have t4 : decide (n3 = 4) = false := decide_eq_false h4
        rw [t2, t4]
        clear h3 h4
        go_wp2_with fail
        go_ret
        exact ⟨rfl, HB11.out⟩
    · have t1 : ((n2 : Int) == 3) = false := by simp; omega
      have t2 : decide (n2 = 3) = false := decide_eq_false h3
      rw [t2]
      clear h3
      go_wp2_with fail
      go_ret
      exact ⟨rfl, HB11.out⟩
  · have HXB := Lib.hid (vBytes_bad q hbad A0 c0 W4 (by have := HNQ.out; omega))
    rw [Ip.val_lit] at HXB
    clear hbad
    go_wp2_with fail
    refine HXB.out.mono ?_
    rintro e w5 ⟨b, rfl, _, hl⟩
    have HB5 := Lib.hid (below_to HB.out hl HB.out.size)
    clear hl HXB HB HX0 d0' d1 d2 d3 d4 d5 d6 d7 d8 d9
    go_wp2_with fail
    go_ret
    exact ⟨rfl, HB5.out⟩
end Go.Proofs.Ytlhanaglhkmcfaa
namespace Go.Proofs.Ytlhanaglhkmcfaa
open Go.ChangeShapes Go.WideShapes Go.RowKit

set_option maxRecDepth 100000 in
theorem icmpSizes_lifted (hc : ∀ (k0 : Ip) (A0 : Option Addr) (c0 : Nat) (n1 : Nat) (n2 : Nat) (n3 : Nat) (w : World), k0.Fit → Rd w (.slice A0 k0.b.length c0) k0.b → c0 ≤ 9223372036854775807 → n1 < 4294967296 → n2 < 256 → n3 < 256 → Calls Try.prog 5 #[k0.val (.slice A0 k0.b.length c0), .int .u32 (n1 : Int), .int .u8 (n2 : Int), .int .u8 (n3 : Int)] w fun e w' => e = .returned (.bool true) ∧ Below w.heap.size w w')
    (os : Os) (started : os.Started) (H : Type) (enc : TypeId × Value → H) :
    ReturnsInHanded {} Try.checked os 5 .any (Rows.icmpSizesSpec.pre6 enc Try.prog Try.f5 Rows.icmpSizesRow.domain false) (Rows.icmpSizesSpec.post enc Try.prog Try.f5 false true false false) := by
  refine returnsInHanded_of_change (C := Try.checked) ownGodebug started (by kernel_rfl) Try.func5
    (ChangeSpec.witness6 (enc := enc) (C := Try.checked) false ⟨#[], #[.agg #[.int .u8 0, .int .u16 0, .bool false, .bool false, .int .i64 0, .int .u8 0, .int .u8 0, .int .u32 0, .int .u32 0, .slice none 0 0], .int .u32 0, .int .u8 0, .int .u8 0], []⟩ 8 (by kernel_rfl) (by kernel_rfl) (by kernel_rfl) (by kernel_rfl)) ?_
  intro W base args ds gs before hval0 hW _ _
  have hval : ∀ (j : Nat) t v, Try.f5.params[j]? = some t → args[j]? = some v → Value.okWide Try.prog W .any base t v := hval0
  have hW' := hW
  obtain ⟨p, q, hA0, hV, rfl, hfz, hnd⟩ := hW
  have hA : DataW.TrodAll enc Try.prog W 0 (fun _ => true) true Try.f5.params.toList args.toList ds p := hA0
  rw [Try.params5] at hA hval
  obtain ⟨v0, vs0, d0, ds0, p0, q0, hargs, rfl, rfl, h0, r0⟩ := trodAll_cons hA
  obtain ⟨v1, vs1, d1, ds1, p1, q1, rfl, rfl, rfl, h1, r1⟩ := trodAll_cons r0
  obtain ⟨v2, vs2, d2, ds2, p2, q2, rfl, rfl, rfl, h2, r2⟩ := trodAll_cons r1
  obtain ⟨v3, vs3, d3, ds3, p3, q3, rfl, rfl, rfl, h3, r3⟩ := trodAll_cons r2
  obtain ⟨rfl, rfl, rfl⟩ := trodAll_nil r3
  obtain rfl : args = #[v0, v1, v2, v3] := by cases args; simpa using hargs
  obtain ⟨rfl, rfl⟩ := trodVars_none hV
  obtain ⟨k0, A0, c0, rfl, b0, e0, a0⟩ := open_ip (hval 0 37 v0 rfl rfl) h0
  obtain ⟨z1, rfl, rfl, rfl, w1⟩ := open_int Try.underlying22 (hval 1 22 v1 rfl rfl) h1
  obtain ⟨n1, rfl, b1⟩ := u32_wf w1
  obtain ⟨z2, rfl, rfl, rfl, w2⟩ := open_int Try.underlying5 (hval 2 5 v2 rfl rfl) h2
  obtain ⟨n2, rfl, b2⟩ := u8n_wf w2
  obtain ⟨z3, rfl, rfl, rfl, w3⟩ := open_int Try.underlying5 (hval 3 5 v3 rfl rfl) h3
  obtain ⟨n3, rfl, b3⟩ := u8n_wf w3
  refine (hc k0 A0 c0 n1 n2 n3 W a0 e0 b0 b1 b2 b3).mono fun e W' ⟨he, hb⟩ => ?_
  subst he
  exact ⟨_, rfl, law_post rfl rfl rfl (by rw [Try.params5]; intro t ht; simp at ht; (try rcases ht with rfl | rfl | rfl) <;> (try subst ht) <;> exact ⟨by kernel_rfl, by rw [typesSize]; decide⟩) hW' hb⟩
theorem icmpSizes_row (hc : ∀ (k0 : Ip) (A0 : Option Addr) (c0 : Nat) (n1 : Nat) (n2 : Nat) (n3 : Nat) (w : World), k0.Fit → Rd w (.slice A0 k0.b.length c0) k0.b → c0 ≤ 9223372036854775807 → n1 < 4294967296 → n2 < 256 → n3 < 256 → Calls Try.prog 5 #[k0.val (.slice A0 k0.b.length c0), .int .u32 (n1 : Int), .int .u8 (n2 : Int), .int .u8 (n3 : Int)] w fun e w' => e = .returned (.bool true) ∧ Below w.heap.size w w') : Rows.IcmpSizesSaid :=
  OpenClaim.holds_of_wide 5 Try.f5 rfl rfl rfl rfl rfl rfl rfl ⟨rfl, rfl, rfl, rfl, rfl⟩ rfl rfl rfl rfl rfl (by kernel_rfl) Try.func5 (by kernel_rfl)
    (of_decide_eq_true (by kernel_rfl)) (by unfold Func.isWrapper; rw [if_neg (of_decide_eq_false (by kernel_rfl))]; exact ⟨rfl, rfl⟩)
    (fun os started H enc _ => icmpSizes_lifted hc os started H enc)
end Go.Proofs.Ytlhanaglhkmcfaa
namespace Go.Proofs.Ytlhanaglhkmcfaa
theorem icmpSizes_holds : Rows.IcmpSizesSaid := icmpSizes_row icmpSizes_any
end Go.Proofs.Ytlhanaglhkmcfaa
