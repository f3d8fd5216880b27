/-
  What is proved: the law ArpTurned answers true for any packet, and leaves all older memory as it was.
  Conditions: errors.errorType holds the handle of the type error; the packet's numbers fit their types.
-/
import Derived.Test.YtjfghobhneogjaaDoorAShown
import Derived.BigQuiet
import Derived.Deep.QuietTactic
namespace Go.Proofs.YtjfghobhneogjaaDoor
open Go.RowKit

theorem u16_fits (z : Int) (h1 : 0 ≤ z) (h2 : z < 65536) : IntKind.u16.wrap z = z := by
  have a : IntKind.u16.bits = 16 := rfl
  have b : IntKind.u16.signed = false := rfl
  simp only [IntKind.wrap, a, b]
  simp
  omega
theorem u16_mod (z : Int) : IntKind.u16.wrap z = z % 65536 := by
  have a : IntKind.u16.bits = 16 := rfl
  have b : IntKind.u16.signed = false := rfl
  simp [IntKind.wrap, a, b]

section
variable {W : World} {G : Nat} {p : Pkt}
theorem PktAt.setOp (h : PktAt W G p) (z : Nat) : PktAt (W.setCell ⟨G, 0, none⟩ (.int .u16 z)) G ⟨z, p.sha, p.spa, p.tha, p.tpa⟩ := by
  have h' : W.heap[G]? = some p.obj := h
  unfold PktAt
  rw [heap_set, h']
  rfl
theorem PktAt.setSpa (h : PktAt W G p) (z : Nat) : PktAt (W.setCell ⟨G, 7, none⟩ (.int .u32 z)) G ⟨p.op, p.sha, z, p.tha, p.tpa⟩ := by
  have h' : W.heap[G]? = some p.obj := h
  unfold PktAt
  rw [heap_set, h']
  rfl
theorem PktAt.setTpa (h : PktAt W G p) (z : Nat) : PktAt (W.setCell ⟨G, 14, none⟩ (.int .u32 z)) G ⟨p.op, p.sha, p.spa, p.tha, z⟩ := by
  have h' : W.heap[G]? = some p.obj := h
  unfold PktAt
  rw [heap_set, h']
  rfl
/-- Six cells written one behind the other. -/
def set6 (W : World) (G i : Nat) (m : M6) : World := ((((((W.setCell ⟨G, i, none⟩ (.int .u8 m.a.toNat)).setCell ⟨G, i + 1, none⟩ (.int .u8 m.b.toNat)).setCell ⟨G, i + 2, none⟩ (.int .u8 m.c.toNat)).setCell ⟨G, i + 3, none⟩ (.int .u8 m.d.toNat)).setCell ⟨G, i + 4, none⟩ (.int .u8 m.e.toNat)).setCell ⟨G, i + 5, none⟩ (.int .u8 m.f.toNat))
theorem PktAt.setSha (h : PktAt W G p) (m : M6) : PktAt (set6 W G 1 m) G ⟨p.op, m, p.spa, p.tha, p.tpa⟩ := by
  have h' : W.heap[G]? = some p.obj := h
  unfold PktAt set6
  rw [heap_set, heap_set, heap_set, heap_set, heap_set, heap_set, h']
  rfl
theorem PktAt.setTha (h : PktAt W G p) (m : M6) : PktAt (set6 W G 8 m) G ⟨p.op, p.sha, p.spa, m, p.tpa⟩ := by
  have h' : W.heap[G]? = some p.obj := h
  unfold PktAt set6
  rw [heap_set, heap_set, heap_set, heap_set, heap_set, heap_set, h']
  rfl
theorem PktAt.other6 {g i : Nat} {m : M6} (h : PktAt W G p) (hne : G ≠ g) : PktAt (set6 W g i m) G p := (((((h.other hne _ _).other hne _ _).other hne _ _).other hne _ _).other hne _ _).other hne _ _
theorem below_set6 {n g i : Nat} {w : World} {m : M6} (h : Below n w W) (hg : n ≤ g) : Below n w (set6 W g i m) := (((((h.setCell (p := ⟨g, _, none⟩) hg _).setCell (p := ⟨g, _, none⟩) hg _).setCell (p := ⟨g, _, none⟩) hg _).setCell (p := ⟨g, _, none⟩) hg _).setCell (p := ⟨g, _, none⟩) hg _).setCell (p := ⟨g, _, none⟩) hg _
end
set_option maxRecDepth 100000 in
set_option maxHeartbeats 4000000 in
theorem turned_any (p : Pkt) (w : World) (hg : Hdl w) (hp : p.In) :
    Calls Tryd.prog 7 #[p.val] w fun e w' => e = .returned (.bool true) ∧ Below w.heap.size w w' := by
  have b1 := below_al (Below.refl w.heap.size w) p.obj
  have HS := Lib.hid (aShown_any _ (hg.below b1))
  have HX := Lib.hid (PktAt.new w p)
  have HB := Lib.hid b1
  have HP := Lib.hid hp
  have hop := hp.op
  clear hg b1 hp
  rw [Pkt.val_lit]
  unfold Pkt.obj at HS
  go_enter Tryd.func7, Tryd.ntmps7
  go_wp2_with fail
  refine HS.out.mono ?_
  rintro e W ⟨rfl, hl⟩
  have HX1 := Lib.hid (HX.out.below hl)
  have HB1 := Lib.hid (below_to HB.out hl HB.out.size)
  clear HS hl HX HB
  obtain ⟨z, hz, hzl⟩ : ∃ z : Nat, IntKind.u16.wrap (3 - (p.op : Int)) = (z : Int) ∧ z < 65536 := ⟨((3 - (p.op : Int)) % 65536).toNat, by rw [u16_mod]; omega, by omega⟩
  have HZL := Lib.hid hzl
  clear hzl
  obtain ⟨c0, c1, c2, c3, c4, c5, c6, c7, c8, c9, c10, c11, c12, c13, c14⟩ := HX1.out.cells
  go_upto_region 3 with fail
  clear c0 c1 c2 c3 c4 c5 c6 c7 c8 c9 c10 c11 c12 c13 c14
  have HX2 := Lib.hid (HX1.out.below (below_al (Below.refl _ W) p.obj))
  have HY2 := Lib.hid (PktAt.new W p)
  have HB2 := Lib.hid (below_to HB1.out (below_al (Below.refl _ W) p.obj) HB1.out.size)
  have HN : Hid (w.heap.size < W.heap.size) := HX1.out.lt
  unfold Pkt.obj at HX2 HY2 HB2
  generalize W.alloc (.cells #[.int .u16 p.op, .int .u8 p.sha.a.toNat, .int .u8 p.sha.b.toNat, .int .u8 p.sha.c.toNat, .int .u8 p.sha.d.toNat, .int .u8 p.sha.e.toNat, .int .u8 p.sha.f.toNat, .int .u32 p.spa, .int .u8 p.tha.a.toNat, .int .u8 p.tha.b.toNat, .int .u8 p.tha.c.toNat, .int .u8 p.tha.d.toNat, .int .u8 p.tha.e.toNat, .int .u8 p.tha.f.toNat, .int .u32 p.tpa] 29) = W2 at *
  generalize W.heap.size = m at *
  clear HX1 HB1
  have c0 := HX2.out.cells.1
  have d0 := HY2.out.cells.1
  have z0 := HY2.out.free 0
  go_upto_region 4 with fail
  clear c0 d0 z0
  have HX3 : Hid (PktAt (W2.setCell ⟨m, 0, none⟩ (.int .u16 z)) w.heap.size p) := HX2.out.other (Nat.ne_of_lt HN.out) 0 _
  have HY3 : Hid (PktAt (W2.setCell ⟨m, 0, none⟩ (.int .u16 z)) m ⟨z, p.sha, p.spa, p.tha, p.tpa⟩) := HY2.out.setOp z
  have HB3 : Hid (Below w.heap.size w (W2.setCell ⟨m, 0, none⟩ (.int .u16 z))) := HB2.out.setCell (Nat.le_of_lt HN.out) _
  clear HX2 HY2 HB2
  generalize W2.setCell ⟨m, 0, none⟩ (.int .u16 z) = W3 at *
  obtain ⟨_, _, _, _, _, _, _, _, c8, c9, c10, c11, c12, c13, _⟩ := HX3.out.cells
  obtain ⟨_, d1, d2, d3, d4, d5, d6, _, _, _, _, _, _, _, _⟩ := HY3.out.cells
  have z1 := HY3.out.free 1
  have z2 := HY3.out.free 2
  have z3 := HY3.out.free 3
  have z4 := HY3.out.free 4
  have z5 := HY3.out.free 5
  have z6 := HY3.out.free 6
  go_upto_region 5 with fail
  clear c8 c9 c10 c11 c12 c13 d1 d2 d3 d4 d5 d6 z1 z2 z3 z4 z5 z6
  have HX4 : Hid (PktAt (set6 W3 m 1 p.tha) w.heap.size p) := HX3.out.other6 (Nat.ne_of_lt HN.out)
  have HY4 : Hid (PktAt (set6 W3 m 1 p.tha) m ⟨z, p.tha, p.spa, p.tha, p.tpa⟩) := HY3.out.setSha p.tha
  have HB4 : Hid (Below w.heap.size w (set6 W3 m 1 p.tha)) := below_set6 HB3.out (Nat.le_of_lt HN.out)
  unfold set6 at HX4 HY4 HB4
  clear HX3 HY3 HB3
  generalize (((((W3.setCell ⟨m, 1, none⟩ (.int .u8 p.tha.a.toNat)).setCell ⟨m, 2, none⟩ (.int .u8 p.tha.b.toNat)).setCell ⟨m, 3, none⟩ (.int .u8 p.tha.c.toNat)).setCell ⟨m, 4, none⟩ (.int .u8 p.tha.d.toNat)).setCell ⟨m, 5, none⟩ (.int .u8 p.tha.e.toNat)).setCell ⟨m, 6, none⟩ (.int .u8 p.tha.f.toNat) = W4 at *
  have c14 := HX4.out.cells.2.2.2.2.2.2.2.2.2.2.2.2.2.2
  have d7 := HY4.out.cells.2.2.2.2.2.2.2.1
  have z7 := HY4.out.free 7
  go_upto_region 6 with fail
  clear c14 d7 z7
  have HX5 : Hid (PktAt (W4.setCell ⟨m, 7, none⟩ (.int .u32 p.tpa)) w.heap.size p) := HX4.out.other (Nat.ne_of_lt HN.out) 7 _
  have HY5 : Hid (PktAt (W4.setCell ⟨m, 7, none⟩ (.int .u32 p.tpa)) m ⟨z, p.tha, p.tpa, p.tha, p.tpa⟩) := HY4.out.setSpa p.tpa
  have HB5 : Hid (Below w.heap.size w (W4.setCell ⟨m, 7, none⟩ (.int .u32 p.tpa))) := HB4.out.setCell (Nat.le_of_lt HN.out) _
  clear HX4 HY4 HB4
  generalize W4.setCell ⟨m, 7, none⟩ (.int .u32 p.tpa) = W5 at *
  obtain ⟨_, c1, c2, c3, c4, c5, c6, _, _, _, _, _, _, _, _⟩ := HX5.out.cells
  obtain ⟨_, _, _, _, _, _, _, _, d8, d9, d10, d11, d12, d13, _⟩ := HY5.out.cells
  have z8 := HY5.out.free 8
  have z9 := HY5.out.free 9
  have z10 := HY5.out.free 10
  have z11 := HY5.out.free 11
  have z12 := HY5.out.free 12
  have z13 := HY5.out.free 13
  go_upto_region 7 with fail
  clear c1 c2 c3 c4 c5 c6 d8 d9 d10 d11 d12 d13 z8 z9 z10 z11 z12 z13
  have HX6 : Hid (PktAt (set6 W5 m 8 p.sha) w.heap.size p) := HX5.out.other6 (Nat.ne_of_lt HN.out)
  have HY6 : Hid (PktAt (set6 W5 m 8 p.sha) m ⟨z, p.tha, p.tpa, p.sha, p.tpa⟩) := HY5.out.setTha p.sha
  have HB6 : Hid (Below w.heap.size w (set6 W5 m 8 p.sha)) := below_set6 HB5.out (Nat.le_of_lt HN.out)
  unfold set6 at HX6 HY6 HB6
  clear HX5 HY5 HB5
  generalize (((((W5.setCell ⟨m, 8, none⟩ (.int .u8 p.sha.a.toNat)).setCell ⟨m, 9, none⟩ (.int .u8 p.sha.b.toNat)).setCell ⟨m, 10, none⟩ (.int .u8 p.sha.c.toNat)).setCell ⟨m, 11, none⟩ (.int .u8 p.sha.d.toNat)).setCell ⟨m, 12, none⟩ (.int .u8 p.sha.e.toNat)).setCell ⟨m, 13, none⟩ (.int .u8 p.sha.f.toNat) = W6 at *
  have c7 := HX6.out.cells.2.2.2.2.2.2.2.1
  have d14 := HY6.out.cells.2.2.2.2.2.2.2.2.2.2.2.2.2.2
  have z14 := HY6.out.free 14
  go_upto_region 8 with fail
  clear c7 d14 z14
  have HX7 : Hid (PktAt (W6.setCell ⟨m, 14, none⟩ (.int .u32 p.spa)) w.heap.size p) := HX6.out.other (Nat.ne_of_lt HN.out) 14 _
  have HY7 : Hid (PktAt (W6.setCell ⟨m, 14, none⟩ (.int .u32 p.spa)) m ⟨z, p.tha, p.tpa, p.sha, p.spa⟩) := HY6.out.setTpa p.spa
  have HB7 : Hid (Below w.heap.size w (W6.setCell ⟨m, 14, none⟩ (.int .u32 p.spa))) := HB6.out.setCell (Nat.le_of_lt HN.out) _
  clear HX6 HY6 HB6
  generalize W6.setCell ⟨m, 14, none⟩ (.int .u32 p.spa) = W7 at *
  have X1 := Lib.hid (aBytes_lit p HP.out W7)
  obtain ⟨c0, c1, c2, c3, c4, c5, c6, c7, c8, c9, c10, c11, c12, c13, c14⟩ := HX7.out.cells
  go_wp2_with fail
  refine X1.out.mono ?_
  clear c0 c1 c2 c3 c4 c5 c6 c7 c8 c9 c10 c11 c12 c13 c14
  rintro e w8 ⟨ba, rfl, _, hoa, hl8⟩
  have HX8 := Lib.hid (HX7.out.below hl8)
  have HY8 := Lib.hid (HY7.out.below hl8)
  have HA8 := Lib.hid (show BytesAt w8 ba p.bs from hoa)
  have HB8 := Lib.hid (below_to HB7.out hl8 HB7.out.size)
  clear X1 HX7 HY7 HB7 hoa hl8
  have hq : Pkt.In ⟨z, p.tha, p.tpa, p.sha, p.spa⟩ := ⟨HZL.out, HP.out.tpa, HP.out.spa⟩
  have x2 := aBytes_lit ⟨z, p.tha, p.tpa, p.sha, p.spa⟩ hq w8
  simp only at x2
  have X2 := Lib.hid x2
  obtain ⟨c0, c1, c2, c3, c4, c5, c6, c7, c8, c9, c10, c11, c12, c13, c14⟩ := HY8.out.cells
  simp only at c0 c1 c2 c3 c4 c5 c6 c7 c8 c9 c10 c11 c12 c13 c14
  clear x2 hq
  go_wp2_with fail
  refine X2.out.mono ?_
  clear c0 c1 c2 c3 c4 c5 c6 c7 c8 c9 c10 c11 c12 c13 c14
  rintro e w9 ⟨bb, rfl, _, hob, hl9⟩
  have HX9 := Lib.hid (HX8.out.below hl9)
  have HA9 := Lib.hid (HA8.out.below hl9)
  have HC9 := Lib.hid (show BytesAt w9 bb (Pkt.bs ⟨z, p.tha, p.tpa, p.sha, p.spa⟩) from hob)
  have HB9 := Lib.hid (below_to HB8.out hl9 HB8.out.size)
  clear X2 HX8 HY8 HB8 HA8 hob hl9
  go_upto_region 12 with fail
  have ra : Rd w9 (.slice (some ⟨ba, 0, none⟩) 28 28) p.bs := HA9.out.rd
  have rb : Rd w9 (.slice (some ⟨bb, 0, none⟩) 28 28) (Pkt.bs ⟨z, p.tha, p.tpa, p.sha, p.spa⟩) := HC9.out.rd
  have a6 : Rd w9 (.slice (some ⟨ba, 0, none⟩) 6 28) arpHead := ra.frontAt (K := 6) (by simp [Pkt.bs_len])
  have b6 : Rd w9 (.slice (some ⟨bb, 0, none⟩) 6 28) arpHead := rb.frontAt (K := 6) (by simp [Pkt.bs_len])
  have a8 : Rd w9 (.slice (some ⟨ba, 8, none⟩) 10 20) (p.sha.bs ++ be4 p.spa) := (ra.backAt (K := 8) (by simp [Pkt.bs_len])).frontAt (K := 10) (by simp [Pkt.bs_len])
  have b8 : Rd w9 (.slice (some ⟨bb, 8, none⟩) 10 20) (p.tha.bs ++ be4 p.tpa) := (rb.backAt (K := 8) (by simp [Pkt.bs_len])).frontAt (K := 10) (by simp [Pkt.bs_len])
  have a18 : Rd w9 (.slice (some ⟨ba, 18, none⟩) 10 10) (p.tha.bs ++ be4 p.tpa) := ra.backAt (K := 18) (by simp [Pkt.bs_len])
  have b18 : Rd w9 (.slice (some ⟨bb, 18, none⟩) 10 10) (p.sha.bs ++ be4 p.spa) := rb.backAt (K := 18) (by simp [Pkt.bs_len])
  obtain ⟨t0, ht0⟩ : ∃ t, t = txt arpHead := ⟨_, rfl⟩
  obtain ⟨t1, ht1⟩ : ∃ t, t = txt (p.sha.bs ++ be4 p.spa) := ⟨_, rfl⟩
  obtain ⟨t2, ht2⟩ : ∃ t, t = txt (p.tha.bs ++ be4 p.tpa) := ⟨_, rfl⟩
  have v1 := fun k => convert_rd (a6.drewN k)
  have v2 := fun k => convert_rd (b6.drewN k)
  have v3 := fun k => convert_rd (a8.drewN k)
  have v4 := fun k => convert_rd (b8.drewN k)
  have v5 := fun k => convert_rd (a18.drewN k)
  have v6 := fun k => convert_rd (b18.drewN k)
  rw [← ht0] at v1 v2
  rw [← ht1] at v3 v6
  rw [← ht2] at v4 v5
  have k0 := HX9.out.cells.1
  have k6 := HA9.out.cell 6 (UInt8.ofNat (p.op / 256)) rfl
  have k7 := HA9.out.cell 7 (UInt8.ofNat p.op) rfl
  rw [ofNat_lt] at k6 k7
  have hx : (p.op / 256 % 256) * 256 + p.op % 256 = p.op := by omega
  generalize p.op / 256 % 256 = x6 at *
  generalize p.op % 256 = x7 at *
  have s0 : IntKind.u16.wrap (x6 : Int) = (x6 : Int) := u16_fits _ (by omega) (by omega)
  have s1 : IntKind.u16.wrap ((x6 : Int) * 256) = (x6 : Int) * 256 := u16_fits _ (by omega) (by omega)
  have s2 : IntKind.u16.wrap (x7 : Int) = (x7 : Int) := u16_fits _ (by omega) (by omega)
  have s3 : IntKind.u16.wrap ((x6 : Int) * 256 + (x7 : Int)) = (x6 : Int) * 256 + (x7 : Int) := u16_fits _ (by omega) (by omega)
  have s4 : ((x6 : Int) * 256 + (x7 : Int) == (p.op : Int)) = true := by simp; omega
  clear ra rb a6 b6 a8 b8 a18 b18 ht0 ht1 ht2 hx
  go_quiet (fail)
  go_wp2_with fail
  go_ret
  exact ⟨rfl, below_drewN HB9.out nq⟩
end Go.Proofs.YtjfghobhneogjaaDoor
