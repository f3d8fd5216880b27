/-
  What is proved: Ipv4Fields of the laws of layer 5 by contract.
  Conditions: errors.errorType holds the handle of the type error; the packet's numbers fit their types; the bytes' capacity is an int.
-/
import Derived.Test.YteglhfhkombkhaaDoorVLex
import Derived.BigQuiet
import Derived.Deep.QuietTactic
namespace Go.Proofs.YteglhfhkombkhaaDoor
open Go.RowKit

/-- The operations of the last region: what each writes, looks at, waits for. -/
def fldLex : List (Option Nat × List Nat × List Nat) := [(some 93, [3], []), (some 94, [93], [0]), (some 95, [4, 94], [1]), (some 96, [95, 94], [2, 1]), (some 97, [96, 94], [3, 1]), (some 98, [97, 94], [4, 1]), (some 99, [94, 98], [1, 5]), (some 100, [99], [6, 1]), (some 101, [4, 100], [7]), (some 102, [101, 100], [8, 7]), (some 103, [102, 100], [9, 7]), (some 104, [1, 100], [7]), (some 105, [104, 100], [11, 7]), (some 106, [103, 105, 100], [10, 12, 7]), (some 107, [100, 106], [7, 13]), (some 108, [107], [14, 7]), (some 109, [6, 108], [15]), (some 110, [4, 108], [15]), (some 111, [110, 108], [17, 15]), (some 112, [109, 111, 108], [16, 18, 15]), (some 113, [108, 112], [15, 19]), (some 114, [113], [20, 15]), (some 115, [4, 114], [21]), (some 116, [115, 114], [22, 21]), (some 117, [116, 114], [23, 21]), (some 118, [117, 114], [24, 21]), (some 119, [118, 114], [25, 21]), (some 120, [4, 114], [21]), (some 121, [120, 114], [27, 21]), (some 122, [121, 114], [28, 21]), (some 123, [122, 114], [29, 21]), (some 124, [119, 123, 114], [26, 30, 21]), (some 125, [1, 114], [21]), (some 126, [125, 114], [32, 21]), (some 127, [126, 114], [33, 21]), (some 128, [124, 127, 114], [31, 34, 21]), (some 129, [114, 128], [21, 35]), (some 130, [129], [36, 21]), (some 131, [7, 130], [37]), (some 132, [131, 130], [38, 37]), (some 133, [132, 130], [39, 37]), (some 134, [1, 130], [37]), (some 135, [134, 130], [41, 37]), (some 136, [133, 135, 130], [40, 42, 37]), (some 137, [130, 136], [37, 43]), (some 138, [137], [44, 37]), (some 139, [7, 138], [45]), (some 140, [139, 138], [46, 45]), (some 141, [140, 138], [47, 45]), (some 142, [141, 138], [48, 45]), (some 143, [1, 138], [45]), (some 144, [143, 138], [50, 45]), (some 145, [142, 144, 138], [49, 51, 45]), (some 146, [138, 145], [45, 52]), (some 147, [146], [53, 45]), (some 148, [7, 147], [54]), (some 149, [148, 147], [55, 54]), (some 150, [149, 147], [56, 54]), (some 151, [150, 147], [57, 54]), (some 152, [1, 147], [54]), (some 153, [152, 147], [59, 54]), (some 154, [151, 153, 147], [58, 60, 54]), (some 155, [147, 154], [54, 61]), (some 156, [155], [62, 54]), (some 157, [7, 156], [63]), (some 158, [157, 156], [64, 63]), (some 159, [156, 158], [63, 65]), (some 160, [159], [66, 63]), (some 161, [4, 160], [67]), (some 162, [161, 160], [68, 67]), (some 163, [162, 160], [69, 67]), (some 164, [1, 160], [67]), (some 165, [164, 160], [71, 67]), (some 166, [163, 165, 160], [70, 72, 67]), (some 167, [160, 166], [67, 73]), (some 168, [167], [74, 67]), (some 169, [4, 168], [75]), (some 170, [169, 168], [76, 75]), (some 171, [170, 168], [77, 75]), (some 172, [1, 168], [75]), (some 173, [172, 168], [79, 75]), (some 174, [171, 173, 168], [78, 80, 75]), (some 175, [168, 174], [75, 81]), (some 176, [175], [82, 75]), (some 177, [8, 176], [83]), (some 178, [1, 176], [83]), (some 179, [178, 176], [85, 83]), (some 180, [177, 179, 176], [84, 86, 83]), (some 181, [176, 180], [83, 87]), (some 182, [181], [88, 83]), (some 183, [9, 182], [89]), (some 184, [1, 182], [89]), (some 185, [184, 182], [91, 89]), (some 186, [183, 185, 182], [90, 92, 89]), (some 187, [182, 186], [89, 93]), (some 188, [187], [94, 89]), (some 189, [4, 188], [95]), (some 190, [189, 188], [96, 95]), (some 191, [190, 188], [97, 95]), (some 192, [1, 188], [95]), (some 193, [192, 188], [99, 95]), (some 194, [193, 188], [100, 95]), (some 195, [191, 194, 188], [98, 101, 95]), (some 196, [188, 195], [95, 102]), (some 2, [196], [103, 95, 0, 1, 2, 3, 4, 5, 6, 7, 8, 9, 10, 11, 12, 13, 14, 15, 16, 17, 18, 19, 20, 21, 22, 23, 24, 25, 26, 27, 28, 29, 30, 31, 32, 33, 34, 35, 36, 37, 38, 39, 40, 41, 42, 43, 44, 45, 46, 47, 48, 49, 50, 51, 52, 53, 54, 55, 56, 57, 58, 59, 60, 61, 62, 63, 64, 65, 66, 67, 68, 69, 70, 71, 72, 73, 74, 75, 76, 77, 78, 79, 80, 81, 82, 83, 84, 85, 86, 87, 88, 89, 90, 91, 92, 93, 94, 95, 96, 97, 98, 99, 100, 101, 102, 103])]
set_option maxRecDepth 100000 in
set_option maxHeartbeats 4000000 in
theorem ipv4Fields_any (p : Ip) (A0 : Option Addr) (c0 : Nat) (w : World) (hg : Hdl w) (hf : p.Fit) (hr : Rd w (.slice A0 p.b.length c0) p.b) (hc : c0 ≤ 9223372036854775807) :
    Calls Tryd.prog 7 #[p.val (.slice A0 p.b.length c0)] w fun e w' => e = .returned (.bool true) ∧ Below w.heap.size w w' := by
  have b1 := below_al (Below.refl w.heap.size w) (p.obj (.slice A0 p.b.length c0))
  have HS := Lib.hid (vShown_any _ (hg.below b1))
  have HX := Lib.hid (IpAt.new w p (.slice A0 p.b.length c0))
  have HB := Lib.hid b1
  have HF := Lib.hid hf
  have HR := Lib.hid hr
  have HC := Lib.hid hc
  clear hg b1 hf hr hc
  rw [Ip.val_lit]
  unfold Ip.obj at HS
  go_enter Tryd.func7, Tryd.ntmps7
  go_wp2_with fail
  refine HS.out.mono ?_
  rintro e w1 ⟨rfl, hl⟩
  have HX1 := Lib.hid (HX.out.below hl)
  have HB1 := Lib.hid (below_to HB.out hl HB.out.size)
  clear HS hl HX HB
  obtain ⟨d0, d1, d2, d3, d4, d5, d6, d7, d8, d9⟩ := HX1.out.cells
  go_wp2_with fail
  refine (few_lit p A0 c0 w1 HF.out (HR.out.below HB1.out) HC.out).mono ?_
  rintro e w2 ⟨q, g, k, hq, rfl, hrq, hgg, hl2⟩
  have HQ := Lib.hid hq
  have HX2 := Lib.hid (HX1.out.below hl2)
  have HRQ2 := Lib.hid hrq
  have HB2 := Lib.hid (below_to HB1.out hl2 HB1.out.size)
  have HN0 : Hid (w.heap.size < g) := Nat.lt_of_lt_of_le HX1.out.lt hgg
  clear hq hrq hgg hl2 d0 d1 d2 d3 d4 d5 d6 d7 d8 d9 HX1 HB1 HR HF HC
  go_upto_region 3 with (refine wpList_store_row rfl 27 (.tmp 1) (.tmp 12) rfl w.heap.size #[.int .u8 q.tos, .int .u16 q.id, .bool q.df, .bool q.mf, .int .i64 q.off, .int .u8 q.ttl, .int .u8 q.proto, .int .u32 q.src, .int .u32 q.dst, .slice (some ⟨g, 0, none⟩) q.b.length k] rfl rfl 27 _ HX2.out ipSize rfl (ipLit_one q _ _ _) ?_)
  have HX3 := Lib.hid (HX2.out.store q (.slice (some ⟨g, 0, none⟩) q.b.length k))
  have HRQ3 := Lib.hid (rd_row HRQ2.out (g := w.heap.size) (by have := HN0.out; omega) #[.int .u8 q.tos, .int .u16 q.id, .bool q.df, .bool q.mf, .int .i64 q.off, .int .u8 q.ttl, .int .u8 q.proto, .int .u32 q.src, .int .u32 q.dst, .slice (some ⟨g, 0, none⟩) q.b.length k])
  have HB3 := Lib.hid (below_row HB2.out (g := w.heap.size) (Nat.le_refl _) #[.int .u8 q.tos, .int .u16 q.id, .bool q.df, .bool q.mf, .int .i64 q.off, .int .u8 q.ttl, .int .u8 q.proto, .int .u32 q.src, .int .u32 q.dst, .slice (some ⟨g, 0, none⟩) q.b.length k])
  clear HX2 HRQ2 HB2
  generalize w2.setRow w.heap.size #[.int .u8 q.tos, .int .u16 q.id, .bool q.df, .bool q.mf, .int .i64 q.off, .int .u8 q.ttl, .int .u8 q.proto, .int .u32 q.src, .int .u32 q.dst, .slice (some ⟨g, 0, none⟩) q.b.length k] = W3 at *
  generalize hn : w.heap.size = n at *
  have HW := Lib.hid hn
  clear hn
  obtain ⟨d0, d1, d2, d3, d4, d5, d6, d7, d8, d9⟩ := HX3.out.cells
  by_cases hbad : q.bad = 0
  · have HBAD := Lib.hid hbad
    have X := Lib.hid (bytes_ok q HQ.out hbad (some ⟨g, 0, none⟩) k W3 HRQ3.out)
    clear hbad
    go_wp2_with fail
    refine X.out.mono ?_
    rintro e w4 ⟨b, rfl, _, hy, hl4⟩
    obtain ⟨y2, y3, y4, y5, y6, y7, s0, s1, s2, s3, t0, t1, t2, t3, hF, ⟨i2, i3, iM⟩, ⟨i4, i5, iI⟩, ⟨i6, i7, iB⟩, ⟨u0, u1, u2, u3, uS⟩, ⟨v0, v1, v2, v3, vD⟩⟩ := fld_at q HQ.out HBAD.out w4 b hy
    have HX4 := Lib.hid (HX3.out.below hl4)
    have HR4 := Lib.hid (HRQ3.out.below hl4)
    have HB4 := Lib.hid (ibelow_on HB3.out HW.out hl4)
    have HF4 := Lib.hid hF
    have HL := Lib.hid q.bs_len
    have HM := Lib.hid (And.intro q.bs_ge HQ.out.bs_le)
    clear hy hl4 hF d0 d1 d2 d3 d4 d5 d6 d7 d8 d9 HX3 HRQ3 HB3 X
    generalize q.bs.length = M at *
    have H2 : Hid ((y2 : Int) < 256 ∧ (y3 : Int) < 256 ∧ (y2 : Int) * 256 + (y3 : Int) = (M : Int)) := by refine ⟨?_, ?_, ?_⟩ <;> omega
    have H4 : Hid ((y4 : Int) < 256 ∧ (y5 : Int) < 256 ∧ (y4 : Int) * 256 + (y5 : Int) = (q.id : Int)) := by refine ⟨?_, ?_, ?_⟩ <;> omega
    have H6 : Hid ((y6 : Int) < 256 ∧ (y7 : Int) < 256 ∧ (y6 : Int) * 256 + (y7 : Int) = (q.bits : Int)) := by refine ⟨?_, ?_, ?_⟩ <;> omega
    have HSS : Hid ((s0 : Int) < 256 ∧ (s1 : Int) < 256 ∧ (s2 : Int) < 256 ∧ (s3 : Int) < 256 ∧ (s0 : Int) * 16777216 + (s1 : Int) * 65536 + (s2 : Int) * 256 + (s3 : Int) = (q.src : Int)) := by refine ⟨?_, ?_, ?_, ?_, ?_⟩ <;> omega
    have HDD : Hid ((t0 : Int) < 256 ∧ (t1 : Int) < 256 ∧ (t2 : Int) < 256 ∧ (t3 : Int) < 256 ∧ (t0 : Int) * 16777216 + (t1 : Int) * 65536 + (t2 : Int) * 256 + (t3 : Int) = (q.dst : Int)) := by refine ⟨?_, ?_, ?_, ?_, ?_⟩ <;> omega
    clear i2 i3 iM i4 i5 iI i6 i7 iB u0 u1 u2 u3 uS v0 v1 v2 v3 vD
    have M1 : decide ((M : Int) < 20) = false := decide_eq_false (by have := HM.out.1; omega)
    have M2 : 20 ≤ (M : Int) := by have := HM.out.1; omega
    have M3 : (M : Int) ≤ 3020 := by have := HM.out.2; omega
    as_aux_lemma =>
      go_upto_region 8 with fail
      have j0 : (2 : Int) < (M : Int) := by omega
      have j1 : (3 : Int) < (M : Int) := by omega
      have c2 := HF4.out.c2
      have c3 := HF4.out.c3
      obtain ⟨e1, e2, e3⟩ := H2.out
      go_quiet (fail)
      have HX5 : Hid (IpAt (w4.drewN nq) n q (.slice (some ⟨g, 0, none⟩) q.b.length k)) := HX4.out
      have HR5 := Lib.hid (dr_rd HR4.out nq)
      have HB5 := Lib.hid (dr_below HB4.out nq)
      have HF5 := Lib.hid (HF4.out.dr nq)
      clear c2 c3 e1 e2 e3 j0 j1 HX4 HR4 HB4 HF4 H2
      generalize w4.drewN nq = w5 at *
      clear nq
      go_upto_region 9 with fail
      have j0 : (6 : Int) < (M : Int) := by omega
      have j1 : (7 : Int) < (M : Int) := by omega
      have c6 := HF5.out.c6
      have c7 := HF5.out.c7
      obtain ⟨e1, e2, e3⟩ := H6.out
      go_quiet (fail)
      have HX6 : Hid (IpAt (w5.drewN nq) n q (.slice (some ⟨g, 0, none⟩) q.b.length k)) := HX5.out
      have HR6 := Lib.hid (dr_rd HR5.out nq)
      have HB6 := Lib.hid (dr_below HB5.out nq)
      have HF6 := Lib.hid (HF5.out.dr nq)
      clear c6 c7 e1 e2 e3 j0 j1 HX5 HR5 HB5 HF5 H6
      generalize w5.drewN nq = w6 at *
      clear nq
      go_upto_region 10 with fail
      have j0 : (12 : Int) < (M : Int) := by omega
      have j1 : (13 : Int) < (M : Int) := by omega
      have j2 : (14 : Int) < (M : Int) := by omega
      have j3 : (15 : Int) < (M : Int) := by omega
      have c12 := HF6.out.c12
      have c13 := HF6.out.c13
      have c14 := HF6.out.c14
      have c15 := HF6.out.c15
      obtain ⟨e0, e1, e2, e3, e4⟩ := HSS.out
      go_quiet (fail)
      have HX7 : Hid (IpAt (w6.drewN nq) n q (.slice (some ⟨g, 0, none⟩) q.b.length k)) := HX6.out
      have HR7 := Lib.hid (dr_rd HR6.out nq)
      have HB7 := Lib.hid (dr_below HB6.out nq)
      have HF7 := Lib.hid (HF6.out.dr nq)
      clear c12 c13 c14 c15 e0 e1 e2 e3 e4 j0 j1 j2 j3 HX6 HR6 HB6 HF6 HSS
      generalize w6.drewN nq = w7 at *
      clear nq
      go_upto_region 11 with fail
      have j16 : (16 : Int) < (M : Int) := by omega
      have j17 : (17 : Int) < (M : Int) := by omega
      have j18 : (18 : Int) < (M : Int) := by omega
      have j19 : (19 : Int) < (M : Int) := by omega
      have c16 := HF7.out.c16
      have c17 := HF7.out.c17
      have c18 := HF7.out.c18
      have c19 := HF7.out.c19
      obtain ⟨e0, e1, e2, e3, e4⟩ := HDD.out
      go_quiet (fail)
      have HX8 : Hid (IpAt (w7.drewN nq) n q (.slice (some ⟨g, 0, none⟩) q.b.length k)) := HX7.out
      have HR8 := Lib.hid (dr_rd HR7.out nq)
      have HB8 := Lib.hid (dr_below HB7.out nq)
      have HF8 := Lib.hid (HF7.out.dr nq)
      clear c16 c17 c18 c19 e0 e1 e2 e3 e4 j16 j17 j18 j19 HX7 HR7 HB7 HF7 HDD
      generalize w7.drewN nq = w8 at *
      clear nq
      go_upto_region 12 with fail
      as_aux_lemma =>
        obtain ⟨z1, z2, z3, z4⟩ := bits_say HBAD.out
        have z0 := HQ.out.inn.id
        have z5 : (q.id : Int) < 65536 := by omega
        obtain ⟨B, hB⟩ : ∃ B : Int, (q.bits : Int) = B := ⟨_, rfl⟩
        obtain ⟨r, hr⟩ : ∃ r : Int, ((q.bits % 8192 : Nat) : Int) = r := ⟨_, rfl⟩
        obtain ⟨d, hd⟩ : ∃ d : Int, B / 8192 = d := ⟨_, rfl⟩
        obtain ⟨d', hd'⟩ : ∃ d : Int, B / 16384 = d := ⟨_, rfl⟩
        obtain ⟨f, hf⟩ : ∃ f : Int, ((q.bits / 8192 % 2 : Nat) : Int) = f := ⟨_, rfl⟩
        obtain ⟨f', hf'⟩ : ∃ f : Int, ((q.bits / 16384 % 2 : Nat) : Int) = f := ⟨_, rfl⟩
        have q1 : B.tmod 8192 = r := by rw [Int.tmod_eq_emod_of_nonneg (by omega)]; omega
        have q2 : B % 8192 = r := by omega
        have q3 : B.tdiv 8192 = d := by rw [Int.tdiv_eq_ediv_of_nonneg (by omega)]; exact hd
        have q4 : B.tdiv 16384 = d' := by rw [Int.tdiv_eq_ediv_of_nonneg (by omega)]; exact hd'
        have q5 : d.tmod 2 = f := by rw [Int.tmod_eq_emod_of_nonneg (by omega)]; omega
        have q6 : d'.tmod 2 = f' := by rw [Int.tmod_eq_emod_of_nonneg (by omega)]; omega
        have q7 : d % 2 = f := by omega
        have q8 : d' % 2 = f' := by omega
        have r0 : 0 ≤ r := by omega
        have r1 : r < 8192 := by omega
        have B0 : 0 ≤ B := by omega
        have B1 : B < 32768 := by omega
        have D0 : 0 ≤ d := by omega
        have D1 : d < 8 := by omega
        have D2 : 0 ≤ d' := by omega
        have D3 : d' < 8 := by omega
        rw [hr] at z1
        rw [hf] at z2
        rw [hf'] at z3
        rw [hB]
        clear hB hr hf hf' z4 z0
        obtain ⟨d0, d1, d2, d3, d4, d5, d6, d7, d8, d9⟩ := HX8.out.cells
        have c0 := HF8.out.c0
        have c1 := HF8.out.c1
        have c4 := HF8.out.c4
        have c5 := HF8.out.c5
        have c8 := HF8.out.c8
        have c9 := HF8.out.c9
        obtain ⟨e5, e6, e7⟩ := H4.out
        have k1 : IntKind.i64.wrap (y4 : Int) = (y4 : Int) := i64_wrapI _ (by omega) (by omega)
        have k2 : IntKind.i64.wrap (y5 : Int) = (y5 : Int) := i64_wrapI _ (by omega) (by omega)
        have k3 : IntKind.i64.wrap ((y4 : Int) * 256) = (y4 : Int) * 256 := i64_wrapI _ (by omega) (by omega)
        have k4 : IntKind.i64.wrap (q.id : Int) = (q.id : Int) := i64_wrapI _ (by omega) (by omega)
        have k5 : IntKind.i64.wrap (r * 8) = q.off := by rw [i64_wrapI _ (by omega) (by omega)]; exact z1
        have k11 : IntKind.i64.wrap q.off = q.off := i64_wrapI _ (by omega) (by omega)
        have k6 : IntKind.i64.wrap r = r := i64_wrapI _ (by omega) (by omega)
        have k7 : IntKind.i64.wrap d = d := i64_wrapI _ (by omega) (by omega)
        have k8 : IntKind.i64.wrap d' = d' := i64_wrapI _ (by omega) (by omega)
        have k9 : IntKind.i64.wrap f = f := i64_wrapI _ (by omega) (by omega)
        have k10 : IntKind.i64.wrap f' = f' := i64_wrapI _ (by omega) (by omega)
        have j0 : (0 : Int) < (M : Int) := by omega
        have j0' : 0 < M := by omega
        have j1' : 1 < M := by omega
        have j1 : (1 : Int) < (M : Int) := by omega
        have j4 : (4 : Int) < (M : Int) := by omega
        have j5 : (5 : Int) < (M : Int) := by omega
        have j8 : (8 : Int) < (M : Int) := by omega
        have j9 : (9 : Int) < (M : Int) := by omega
        obtain ⟨Z, hZ⟩ : ∃ Z : Option Addr, (if M = 20 then some ⟨b, 0, none⟩ else some ⟨b, 20, none⟩) = Z := ⟨_, rfl⟩
        have v1 : ∀ k', (convert 22 9 (.slice Z (M - 20) (M - 20))).run Tryd.prog (w8.drewN k') = .ok (.string (txt q.b)) (w8.drewN k') := fun k' => convert_rd (by
          have h := dr_rd HF8.out.rest k'
          have hl := HL.out
          rw [show M - 20 = q.b.length by omega, ← hZ]
          by_cases h0 : M = 20
          · rw [if_pos h0]
            have hb : q.b = [] := List.length_eq_zero_iff.1 (by omega)
            rw [hb]
            exact ⟨_, 0, rfl, Nat.le_refl _, fun h => absurd h (by simp)⟩
          · rw [if_neg h0]
            exact h)
        have v2 : ∀ k', (convert 22 9 (.slice (some ⟨g, 0, none⟩) q.b.length k)).run Tryd.prog (w8.drewN k') = .ok (.string (txt q.b)) (w8.drewN k') := fun k' => convert_rd (dr_rd HR8.out k')
        simp only [List.append_eq, List.cons_append, List.nil_append]
        refine wp_region_quiet_lit (by kernel_rfl) (by as_aux_lemma => exact lex_fast _ fldLex (by kernel_rfl) (by kernel_rfl) (by kernel_rfl)) ?_
        iterate 21 (go_big_quiet_step (fail))
        as_aux_lemma =>
          iterate 21 (go_big_quiet_step (fail))
          as_aux_lemma =>
            iterate 21 (go_big_quiet_step (fail))
            as_aux_lemma =>
              iterate 21 (go_big_quiet_step (fail))
              as_aux_lemma =>
                repeat (go_big_quiet_step (fail))
                refine wpQuiet_nil ?_
                intro _ hw'
                obtain ⟨nq, hw''⟩ := hw'
                subst hw''
                clear c0 c1 c4 c5 c8 c9 d0 d1 d2 d3 d4 d5 d6 d7 d8 d9 e5 e6 e7 v1 v2 q1 q2 q3 q4 q5 q6 q7 q8
                go_wp2_with fail
                go_ret
                exact ⟨rfl, by rw [HW.out]; exact dr_below HB8.out nq⟩
  · have X := Lib.hid (bytes_bad q HQ.out hbad (some ⟨g, 0, none⟩) k W3)
    have HBAD := Lib.hid hbad
    clear hbad
    go_wp2_with fail
    refine X.out.mono ?_
    rintro e w4 ⟨b, rfl, _, hl4⟩
    have HX4 := Lib.hid (HX3.out.below hl4)
    have HB4 := Lib.hid (ibelow_on HB3.out HW.out hl4)
    clear hl4 HB3 X HX3 d0 d1 d2 d3 d4 d5 d6 d7 d8 d9
    obtain ⟨d0, d1, d2, d3, d4, d5, d6, d7, d8, d9⟩ := HX4.out.cells
    go_wp2_with fail
    refine (right_own q HQ.out (some ⟨g, 0, none⟩) k w4).mono ?_
    rintro e w5 ht
    obtain ⟨b5, rfl, _, hl5⟩ := ht.bad HBAD.out
    have HB5 := Lib.hid (ibelow_on HB4.out HW.out hl5)
    clear ht hl5 HB4 HX4 d0 d1 d2 d3 d4 d5 d6 d7 d8 d9
    go_wp2_with fail
    go_ret
    exact ⟨rfl, by rw [HW.out]; exact HB5.out⟩
end Go.Proofs.YteglhfhkombkhaaDoor
