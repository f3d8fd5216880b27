/-
  What is proved: IcmpReplies' function by contract: it returns true and leaves all older memory as it was.
  Conditions: the messages' numbers fit their types.
  What is proved: rows of laws out of their functions' contracts.
  Conditions: the contracts, handed in.
  What is proved: IcmpReplies: for any message the law returns true, and leaves its arguments as they were.
  Conditions: none.
-/
import Derived.Test.YtlhanaglhkmcfaaIOf
import Derived.Test.YtlhanaglhkmcfaaIShown
import Derived.Test.YtlhanaglhkmcfaaSNoughts
import Derived.Test.YtlhanaglhkmcfaaILift
namespace Go.Proofs.Ytlhanaglhkmcfaa
open Go.RowKit

theorem MsAt.set3 {W : World} {G : Nat} {d : Ms} {bv : Value} (h : MsAt W G d bv) (v : Value) : MsAt (W.setCell ⟨G, 3, none⟩ v) G d v := by
  have h' : W.heap[G]? = some (d.obj bv) := h
  unfold MsAt
  rw [heap_set, h']
  simp [Ms.obj]
theorem MsAt.set0 {W : World} {G : Nat} {d : Ms} {bv : Value} (h : MsAt W G d bv) (t : Nat) : MsAt (W.setCell ⟨G, 0, none⟩ (.int .u8 t)) G ⟨t, d.code, d.rest, d.b⟩ bv := by
  have h' : W.heap[G]? = some (d.obj bv) := h
  unfold MsAt
  rw [heap_set, h']
  simp [Ms.obj]
theorem iupd1 {S T o n : Nat} (h : T + o = S + n) (ho : o ≤ S) (ho2 : o ≤ 65535) (hT : T ≠ 0) : fold (fold S + (65535 - o) + n) = fold T := by
  have h1 := fold_mod S
  have h2 := fold_zero S
  exact fold_eq (by omega) (by omega)
/-- What is behind a message's first four bytes. -/
def Ms.tail (m : Ms) : List UInt8 := be4 m.rest ++ m.b
theorem Ms.bs_four (m : Ms) : m.bs = UInt8.ofNat m.typ :: UInt8.ofNat m.code :: UInt8.ofNat (m.ck / 256) :: UInt8.ofNat m.ck :: m.tail := rfl
/-- The weight of a message of type 0, without its sum. -/
def Ms.wt (m : Ms) : Nat := hi8rest 0 m.code m.rest m.b
set_option maxRecDepth 100000 in
theorem hi8rest_typ (t c r : Nat) (b : List UInt8) (ht : t < 256) : hi8rest t c r b = t * 256 + hi8rest 0 c r b := by
  have k1 : hi8rest t c r b = (UInt8.ofNat t).toNat * 256 + ((UInt8.ofNat c).toNat + ((UInt8.ofNat (0 / 256)).toNat * 256 + ((UInt8.ofNat 0).toNat + wsum true (be4 r ++ b)))) := rfl
  have k2 : hi8rest 0 c r b = (UInt8.ofNat 0).toNat * 256 + ((UInt8.ofNat c).toNat + ((UInt8.ofNat (0 / 256)).toNat * 256 + ((UInt8.ofNat 0).toNat + wsum true (be4 r ++ b)))) := rfl
  have e0 : (UInt8.ofNat 0).toNat = 0 := rfl
  have e1 : (UInt8.ofNat t).toNat = t := by rw [ofNat_lt]; omega
  omega
theorem Ms.wt_code {m : Ms} (hm : m.In) (h : m.code ≠ 0) : m.wt ≠ 0 := by
  intro e
  have h1 := (wsum_zero true _).1 e (UInt8.ofNat m.code) (by simp [hi8])
  have h2 : (UInt8.ofNat m.code).toNat = 0 := by rw [h1]; rfl
  rw [ofNat_lt] at h2
  have := hm.code
  omega
theorem Ms.wt_rest {m : Ms} (hm : m.In) (h : m.rest ≠ 0) : m.wt ≠ 0 := by
  intro e
  have h1 := (wsum_zero true _).1 e
  have h2 : ∀ b ∈ be4 m.rest, b.toNat = 0 := fun b hb => by rw [h1 b (by simp [hi8, hb])]; rfl
  have e4 := be4_sum m.rest hm.rest
  rw [h2 _ (by simp [be4]), h2 (UInt8.ofNat (m.rest / 65536)) (by simp [be4]), h2 (UInt8.ofNat (m.rest / 256)) (by simp [be4]), h2 (UInt8.ofNat m.rest) (by simp [be4])] at e4
  omega
theorem Ms.wt_b {m : Ms} {k : Nat} {x : UInt8} (hx : m.b[k]? = some x) (h : x.toNat ≠ 0) : m.wt ≠ 0 := by
  intro e
  have h1 := (wsum_zero true _).1 e x (by simp [List.mem_of_getElem? hx])
  exact h (by rw [h1]; rfl)
set_option maxRecDepth 100000 in
theorem Ms.reply {m : Ms} (hm : m.In) (h : m.wt ≠ 0) : (65535 - fold ((65535 - (Ms.mk 8 m.code m.rest m.b).ck) + (65535 - (2048 + m.code)) + m.code) : Nat) = (Ms.mk 0 m.code m.rest m.b).ck := by
  have hc := hm.code
  have e1 : (Ms.mk 8 m.code m.rest m.b).ck = 65535 - fold (hi8rest 8 m.code m.rest m.b) := rfl
  have e2 : (Ms.mk 0 m.code m.rest m.b).ck = 65535 - fold m.wt := rfl
  have e3 := hi8rest_typ 8 m.code m.rest m.b (by decide)
  have e4 : hi8rest 0 m.code m.rest m.b = m.wt := rfl
  have e5 : m.code ≤ m.wt := by
    have k2 : m.wt = (UInt8.ofNat 0).toNat * 256 + ((UInt8.ofNat m.code).toNat + ((UInt8.ofNat (0 / 256)).toNat * 256 + ((UInt8.ofNat 0).toNat + wsum true (be4 m.rest ++ m.b)))) := rfl
    have e1 : (UInt8.ofNat m.code).toNat = m.code := by rw [ofNat_lt]; omega
    omega
  have e6 := fold_le (hi8rest 8 m.code m.rest m.b)
  have k := iupd1 (S := hi8rest 8 m.code m.rest m.b) (T := m.wt) (o := 2048 + m.code) (n := m.code) (by omega) (by omega) (by omega) h
  rw [e1, e2, show 65535 - (65535 - fold (hi8rest 8 m.code m.rest m.b)) = fold (hi8rest 8 m.code m.rest m.b) by omega, k]
theorem iu16_wrap (z : Int) (h0 : 0 ≤ z) (h : z < 65536) : IntKind.u16.wrap z = z := by
  have h1 : IntKind.u16.bits = 16 := rfl
  have h2 : IntKind.u16.signed = false := rfl
  simp [IntKind.wrap, h1, h2]
  omega
set_option maxRecDepth 100000 in
set_option maxHeartbeats 8000000 in
theorem icmpReplies_any (d0 : Ms) (A0 : Option Addr) (c0 : Nat) (w : World) (hf0 : d0.Fit) (hr0 : Rd w (.slice A0 d0.b.length c0) d0.b) (_hc0 : c0 ≤ 9223372036854775807) :
    Calls Try.prog 4 #[d0.val (.slice A0 d0.b.length c0)] w fun e w' => e = .returned (.bool true) ∧ Below w.heap.size w w' := by
  have b2 := below_al (Below.refl w.heap.size w) (d0.obj (.slice A0 d0.b.length c0))
  have HS := Lib.hid (iShown_any (w.alloc (d0.obj (.slice A0 d0.b.length c0))))
  have HX0 : Hid (MsAt (w.alloc (d0.obj (.slice A0 d0.b.length c0))) w.heap.size d0.few (.slice A0 d0.b.length c0)) := MsAt.new w d0 (.slice A0 d0.b.length c0)
  have HB := Lib.hid b2
  have HRP := Lib.hid (Ms.few_rd hr0)
  have HLEN0 := Lib.hid d0.few_len
  have HCAP0 := Lib.hid (Ms.few_cap hr0)
  have HIP := Lib.hid (Ms.few_in hf0)
  clear b2 hf0 hr0
  rw [Ms.val_lit]
  have e0 : d0.typ = d0.few.typ ∧ d0.code = d0.few.code ∧ d0.rest = d0.few.rest := ⟨rfl, rfl, rfl⟩
  generalize hW : (w.alloc (d0.obj (.slice A0 d0.b.length c0))) = W0 at HX0 HB HS
  unfold Ms.obj at hW
  rw [e0.1, e0.2.1, e0.2.2] at hW ⊢
  clear e0
  generalize d0.few = q at *
  obtain ⟨l8, h8⟩ : ∃ l, (Ms.mk 8 q.code q.rest q.b).bs = l := ⟨_, rfl⟩
  obtain ⟨l0, h0⟩ : ∃ l, (Ms.mk 0 q.code q.rest q.b).bs = l := ⟨_, rfl⟩
  obtain ⟨k8, hk8⟩ : ∃ k, (Ms.mk 8 q.code q.rest q.b).ck = k := ⟨_, rfl⟩
  obtain ⟨k0, hk0⟩ : ∃ k, (Ms.mk 0 q.code q.rest q.b).ck = k := ⟨_, rfl⟩
  obtain ⟨M, hM⟩ : ∃ M, 8 + q.b.length = M := ⟨_, rfl⟩
  have e8 : l8 = UInt8.ofNat 8 :: UInt8.ofNat q.code :: UInt8.ofNat (k8 / 256) :: UInt8.ofNat k8 :: q.tail := by rw [← h8, ← hk8]; rfl
  have e0 : l0 = UInt8.ofNat 0 :: UInt8.ofNat q.code :: UInt8.ofNat (k0 / 256) :: UInt8.ofNat k0 :: q.tail := by rw [← h0, ← hk0]; rfl
  have HE8 := Lib.hid e8
  have HE0 := Lib.hid e0
  have HM8 : Hid (l8.length = M) := by show _ = _; rw [← h8, Ms.bs_len, hM]
  have HM0 : Hid (l0.length = M) := by show _ = _; rw [← h0, Ms.bs_len, hM]
  have HM : Hid (8 ≤ M) := by show _ ≤ _; omega
  have HK8 : Hid (k8 < 65536) := by rw [← hk8]; exact Ms.ck_lt _
  have HK0 : Hid (k0 < 65536) := by rw [← hk0]; exact Ms.ck_lt _
  have HRE : Hid (q.wt ≠ 0 → (65535 - fold ((65535 - k8) + (65535 - (2048 + q.code)) + q.code) : Nat) = k0) := fun h => by rw [← hk8, ← hk0]; exact Ms.reply HIP.out h
  have X8 : Hid (∀ W, Below w.heap.size w W → Calls Try.prog 7 #[.agg #[.int .u8 8, .int .u8 q.code, .int .u32 q.rest, .slice A0 q.b.length c0]] W fun e w' => ∃ b, e = .returned (.slice (some ⟨b, 0, none⟩) M M) ∧ W.heap.size ≤ b ∧ BAt w' b l8 ∧ Below W.heap.size W w') := fun W h => by
    rw [← HM8.out, ← h8]
    exact iBytes_any ⟨8, q.code, q.rest, q.b⟩ ⟨by show 8 < 256; decide, HIP.out.code, HIP.out.rest, HIP.out.b⟩ A0 c0 W (HRP.out.below h)
  have X0 : Hid (∀ W, Below w.heap.size w W → Calls Try.prog 7 #[.agg #[.int .u8 0, .int .u8 q.code, .int .u32 q.rest, .slice A0 q.b.length c0]] W fun e w' => ∃ b, e = .returned (.slice (some ⟨b, 0, none⟩) M M) ∧ W.heap.size ≤ b ∧ BAt w' b l0 ∧ Below W.heap.size W w') := fun W h => by
    rw [← HM0.out, ← h0]
    exact iBytes_any ⟨0, q.code, q.rest, q.b⟩ ⟨by show 0 < 256; decide, HIP.out.code, HIP.out.rest, HIP.out.b⟩ A0 c0 W (HRP.out.below h)
  clear h8 h0 hk8 hk0 hM e8 e0
  go_enter Try.func4, Try.ntmps4
  go_upto_region 1 with fail
  (try rw [hW])
  clear hW
  go_wp2_with fail
  refine HS.out.mono ?_
  rintro e w1 ⟨rfl, hl⟩
  have HX0N := Lib.hid (HX0.out.below hl)
  have HBN := Lib.hid (below_to HB.out hl HB.out.size)
  clear HS hl HB HX0
  have HB := HBN
  have HX0 := HX0N
  clear HBN HX0N
  go_upto_region 2 with fail
  obtain ⟨M0, hM0⟩ : ∃ M : Int, ((d0.b.length : Nat) : Int) = M := ⟨_, rfl⟩
  obtain ⟨K0, hK0⟩ : ∃ K : Int, ((q.b.length : Nat) : Int) = K := ⟨_, rfl⟩
  have hx0 : (q.b.length : Nat) = min d0.b.length 2000 := HLEN0.out
  have hmin0 : ∀ W, (Builtin.min_ #[3, 3] 3 #[.int .i64 M0, .int .i64 2000]).run Try.prog W = .ok (.int .i64 K0) W := fun W => min_run (P := Try.prog) #[3, 3] 3 M0 2000 K0 (by omega) W
  have i1 : 0 ≤ K0 := by omega
  have i2 : ¬ K0 < 0 := by omega
  have i3 : K0 ≤ (c0 : Int) := by have := HCAP0.out; omega
  have i4 : K0.toNat = q.b.length := by omega
  clear hx0 hK0
  have k3 := HX0.out.cells.2.2.2
  have z3 := HX0.out.free 3
  go_upto_region 3 with fail
  have HXN : Hid (MsAt (w1.setCell ⟨w.heap.size, 3, none⟩ (.slice A0 q.b.length c0)) w.heap.size q (.slice A0 q.b.length c0)) := HX0.out.set3 _
  have HBN : Hid (Below w.heap.size w (w1.setCell ⟨w.heap.size, 3, none⟩ (.slice A0 q.b.length c0))) := HB.out.setCell (p := ⟨w.heap.size, 3, none⟩) (Nat.le_refl _) _
  clear hM0 hmin0 i1 i2 i3 i4 k3 z3 HX0 HB
  generalize w1.setCell ⟨w.heap.size, 3, none⟩ (.slice A0 q.b.length c0) = W2 at *
  have HX0 := HXN
  have HB := HBN
  clear HXN HBN
  have k0' := HX0.out.cells.1
  have z0 := HX0.out.free 0
  go_upto_region 4 with fail
  have HXN : Hid (MsAt (W2.setCell ⟨w.heap.size, 0, none⟩ (.int .u8 8)) w.heap.size ⟨8, q.code, q.rest, q.b⟩ (.slice A0 q.b.length c0)) := HX0.out.set0 8
  have HBN : Hid (Below w.heap.size w (W2.setCell ⟨w.heap.size, 0, none⟩ (.int .u8 8))) := HB.out.setCell (p := ⟨w.heap.size, 0, none⟩) (Nat.le_refl _) _
  clear k0' z0 HX0 HB
  generalize W2.setCell ⟨w.heap.size, 0, none⟩ (.int .u8 8) = W3 at *
  have HX0 := HXN
  have HB := HBN
  clear HXN HBN
  obtain ⟨c0', c1, c2, c3⟩ := HX0.out.cells
  simp only at c0' c1 c2 c3
  go_wp2_with fail
  refine (X8.out _ HB.out).mono ?_
  rintro e w4 ⟨b1, rfl, hbn, hy, hl⟩
  have HY1 := Lib.hid hy
  have HNB : Hid (b1 ≠ w.heap.size) := Nat.ne_of_gt (Nat.lt_of_lt_of_le HX0.out.lt hbn)
  have HXN := Lib.hid (HX0.out.below hl)
  have HBN := Lib.hid (below_to HB.out hl HB.out.size)
  clear hbn hy hl HX0 HB c0' c1 c2 c3
  have HX0 := HXN
  have HB := HBN
  clear HXN HBN
  have k0' := HX0.out.cells.1
  have z0 := HX0.out.free 0
  go_upto_region 6 with fail
  have HXN : Hid (MsAt (w4.setCell ⟨w.heap.size, 0, none⟩ (.int .u8 0)) w.heap.size ⟨0, q.code, q.rest, q.b⟩ (.slice A0 q.b.length c0)) := HX0.out.set0 0
  have HBN : Hid (Below w.heap.size w (w4.setCell ⟨w.heap.size, 0, none⟩ (.int .u8 0))) := HB.out.setCell (p := ⟨w.heap.size, 0, none⟩) (Nat.le_refl _) _
  have HYN : Hid (BAt (w4.setCell ⟨w.heap.size, 0, none⟩ (.int .u8 0)) b1 l8) := set_block HY1.out HNB.out _
  clear k0' z0 HX0 HB HY1
  generalize w4.setCell ⟨w.heap.size, 0, none⟩ (.int .u8 0) = W5 at *
  have HX0 := HXN
  have HB := HBN
  have HY1 := HYN
  clear HYN
  clear HXN HBN
  obtain ⟨c0', c1, c2, c3⟩ := HX0.out.cells
  simp only at c0' c1 c2 c3
  go_wp2_with fail
  refine (X0.out _ HB.out).mono ?_
  rintro e w6 ⟨b2, rfl, hbn, hy, hl⟩
  have HY2 := Lib.hid hy
  have HY1N := Lib.hid (HY1.out.below hl)
  clear HY1
  have HY1 := HY1N
  clear HY1N
  have HXN := Lib.hid (HX0.out.below hl)
  have HBN := Lib.hid (below_to HB.out hl HB.out.size)
  clear hbn hy hl HX0 HB c0' c1 c2 c3
  have HX0 := HXN
  have HB := HBN
  clear HXN HBN
  generalize hn : w.heap.size = n at *
  have HW := Lib.hid hn
  clear hn
  have u0 : ¬ (M : Int) < 4 := by have := HM.out; omega
  have u1 : (2 : Int) < (M : Int) := by have := HM.out; omega
  have u2 : (3 : Int) < (M : Int) := by have := HM.out; omega
  have tb : ∀ k : Nat, (UInt8.ofNat (k / 256)).toNat = k / 256 % 256 := fun k => ofNat_lt _
  have tl : ∀ k : Nat, (UInt8.ofNat k).toNat = k % 256 := fun k => ofNat_lt _
  have a2 := HY1.out.cell 2 (UInt8.ofNat (k8 / 256)) (by rw [HE8.out]; rfl)
  have a3 := HY1.out.cell 3 (UInt8.ofNat k8) (by rw [HE8.out]; rfl)
  have o2 := HY2.out.cell 2 (UInt8.ofNat (k0 / 256)) (by rw [HE0.out]; rfl)
  have o3 := HY2.out.cell 3 (UInt8.ofNat k0) (by rw [HE0.out]; rfl)
  rw [tb] at a2 o2
  rw [tl] at a3 o3
  obtain ⟨p2, hp2⟩ : ∃ p : Int, ((k8 / 256 % 256 : Nat) : Int) = p := ⟨_, rfl⟩
  obtain ⟨p3, hp3⟩ : ∃ p : Int, ((k8 % 256 : Nat) : Int) = p := ⟨_, rfl⟩
  obtain ⟨r2, hr2⟩ : ∃ p : Int, ((k0 / 256 % 256 : Nat) : Int) = p := ⟨_, rfl⟩
  obtain ⟨r3, hr3⟩ : ∃ p : Int, ((k0 % 256 : Nat) : Int) = p := ⟨_, rfl⟩
  rw [hp2] at a2
  rw [hp3] at a3
  rw [hr2] at o2
  rw [hr3] at o3
  have hk8 := HK8.out
  have hk0 := HK0.out
  have v1 : IntKind.u16.wrap p2 = p2 := iu16_wrap _ (by omega) (by omega)
  have v2 : IntKind.u16.wrap (p2 * 256) = p2 * 256 := iu16_wrap _ (by omega) (by omega)
  have v3 : IntKind.u16.wrap p3 = p3 := iu16_wrap _ (by omega) (by omega)
  have v4 : IntKind.u16.wrap (p2 * 256 + p3) = (k8 : Int) := by rw [iu16_wrap _ (by omega) (by omega)]; omega
  have x1 : IntKind.u16.wrap r2 = r2 := iu16_wrap _ (by omega) (by omega)
  have x2 : IntKind.u16.wrap (r2 * 256) = r2 * 256 := iu16_wrap _ (by omega) (by omega)
  have x3 : IntKind.u16.wrap r3 = r3 := iu16_wrap _ (by omega) (by omega)
  have x4 : IntKind.u16.wrap (r2 * 256 + r3) = (k0 : Int) := by rw [iu16_wrap _ (by omega) (by omega)]; omega
  have hcd := HIP.out.code
  have y1 : IntKind.u16.wrap (q.code : Int) = (q.code : Int) := iu16_wrap _ (by omega) (by omega)
  have y2 : IntKind.u16.wrap (2048 + (q.code : Int)) = ((2048 + q.code : Nat) : Int) := by rw [iu16_wrap _ (by omega) (by omega)]; omega
  clear tb tl hp2 hp3 hr2 hr3 hk8 hk0 hcd
  obtain ⟨c0', c1, c2, c3⟩ := HX0.out.cells
  simp only at c0' c1 c2 c3
  go_upto_region 9 with fail
  have KS : Hid (∀ W, Below w6.heap.size w6 W → W.cell? ⟨b1, 2, none⟩ = some (.int .u8 p2) ∧ W.cell? ⟨b1, 3, none⟩ = some (.int .u8 p3)) := fun W h => ⟨(h.cell (World.block_lt_of_cell? _ _ a2)).trans a2, (h.cell (World.block_lt_of_cell? _ _ a3)).trans a3⟩
  go_cut [6] (fun s wx => s = .int .u16 (k8 : Int) ∧ Below w6.heap.size w6 wx)
  case first =>
    go_region_held_law (fun W => W.cell? ⟨b1, 2, none⟩ = some (.int .u8 p2) ∧ W.cell? ⟨b1, 3, none⟩ = some (.int .u8 p3))
      (first | assumption | exact KS.out _ (below_drew w6))
      (first | fail)
    all_goals
      go_wp2_with fail
      go_meet
      exact ⟨rfl, below_drew _⟩
  obtain ⟨rfl, hl⟩ := hcut
  clear KS
  have o2 := (hl.cell (World.block_lt_of_cell? _ _ o2)).trans o2
  have o3 := (hl.cell (World.block_lt_of_cell? _ _ o3)).trans o3
  have HX0N := Lib.hid (HX0.out.below hl)
  have HY1N := Lib.hid (HY1.out.below hl)
  have HY2N := Lib.hid (HY2.out.below hl)
  have HBN := Lib.hid (below_to HB.out hl (by rw [← HW.out]; exact HB.out.size))
  clear hl HX0 HY1 HY2 HB
  have HX0 := HX0N
  clear HX0N
  have HY1 := HY1N
  clear HY1N
  have HY2 := HY2N
  clear HY2N
  have HB := HBN
  clear HBN
  go_upto_region 10 with fail
  generalize wc = w7 at *
  have KS : Hid (∀ W, Below w7.heap.size w7 W → W.cell? ⟨b2, 2, none⟩ = some (.int .u8 r2) ∧ W.cell? ⟨b2, 3, none⟩ = some (.int .u8 r3)) := fun W h => ⟨(h.cell (World.block_lt_of_cell? _ _ o2)).trans o2, (h.cell (World.block_lt_of_cell? _ _ o3)).trans o3⟩
  go_cut [7] (fun s wx => s = .int .u16 (k0 : Int) ∧ Below w7.heap.size w7 wx)
  case first =>
    go_region_held_law (fun W => W.cell? ⟨b2, 2, none⟩ = some (.int .u8 r2) ∧ W.cell? ⟨b2, 3, none⟩ = some (.int .u8 r3))
      (first | assumption | exact KS.out _ (below_drew w7))
      (first | fail)
    all_goals
      go_wp2_with fail
      go_meet
      exact ⟨rfl, below_drew _⟩
  obtain ⟨rfl, hl⟩ := hcut
  clear KS
  have HX0N := Lib.hid (HX0.out.below hl)
  have HY1N := Lib.hid (HY1.out.below hl)
  have HY2N := Lib.hid (HY2.out.below hl)
  have HBN := Lib.hid (below_to HB.out hl (by rw [← HW.out]; exact HB.out.size))
  clear hl HX0 HY1 HY2 HB
  have HX0 := HX0N
  clear HX0N
  have HY1 := HY1N
  clear HY1N
  have HY2 := HY2N
  clear HY2N
  have HB := HBN
  clear HBN
  generalize wc = w8 at *
  clear a2 a3 o2 o3 v1 v2 v3 v4 x1 x2 x3 x4 c0' c1 c2 c3
  obtain ⟨c0', c1, c2, c3⟩ := HX0.out.cells
  simp only at c0' c1 c2 c3
  have HB0 : Hid (Below w.heap.size w w8) := by rw [HW.out]; exact HW.out ▸ HB.out
  go_upto_region 12 with fail
  go_cut [9] (fun s wx => ∃ t : Bool, s = .bool t ∧ (t = true → q.wt ≠ 0) ∧ w8 = wx)
  case first =>
    by_cases h1 : q.code = 0
    · have k1 : ((q.code : Int) != 0) = false := by simp; omega
      have k2 : ((q.code : Int) == 0) = true := by simp; omega
      by_cases h2 : q.rest = 0
      · have k3 : ((q.rest : Int) != 0) = false := by simp; omega
        have k4 : ((q.rest : Int) == 0) = true := by simp; omega
        clear h1 h2
        go_wp2_with fail
        go_meet
        exact ⟨false, rfl, by simp, rfl⟩
      · have k3 : ((q.rest : Int) != 0) = true := by simp; omega
        have k4 : ((q.rest : Int) == 0) = false := by simp; omega
        have HT2 := Lib.hid (Ms.wt_rest HIP.out h2)
        clear h1 h2
        go_wp2_with fail
        go_meet
        exact ⟨true, rfl, fun _ => HT2.out, rfl⟩
    · have k1 : ((q.code : Int) != 0) = true := by simp; omega
      have k2 : ((q.code : Int) == 0) = false := by simp; omega
      have HT2 := Lib.hid (Ms.wt_code HIP.out h1)
      clear h1
      go_wp2_with fail
      go_meet
      exact ⟨true, rfl, fun _ => HT2.out, rfl⟩
  obtain ⟨t, rfl, ht, rfl⟩ := hcut
  have HL : Hid (q.b.length ≤ 1099511627776) := by show _ ≤ _; have := HIP.out.b; omega
  obtain ⟨L, hL⟩ : ∃ L, q.b.length = L := ⟨_, rfl⟩
  have HLL := Lib.hid hL
  rw [hL] at c3
  have hLb : L ≤ 1099511627776 := by rw [← hL]; exact HL.out
  have hct : q.code < 256 := HIP.out.code
  have HWT := Lib.hid ht
  have XU : Hid (q.wt ≠ 0 → ∀ W, Calls Try.prog 9 #[.int .u16 (k8 : Int), .int .u16 (2048 + (q.code : Int)), .int .u16 (q.code : Int)] W fun e w' => e = .returned (.int .u16 (k0 : Int)) ∧ w' = W) := fun h W => by
    have k := Update_any k8 (2048 + q.code) q.code (by have := HK8.out; omega) (by omega) (by omega) W
    rw [HRE.out h] at k
    exact k.mono fun _ _ ⟨he, hw⟩ => ⟨he, hw.symm⟩
  clear hL ht hct
  go_upto_region 13 with fail
  go_wp2_with fail
  go_loopw [9, 10] (fun s i wr => ∃ (t : Bool) (k : Nat), s = .bool t ∧ k ≤ L ∧ i = .int .i64 (k : Int) ∧ (t = true → q.wt ≠ 0) ∧ w8 = wr) (fun _ i _ => L - (intOf i).toNat)
  case atStart => exact ⟨t, 0, rfl, by omega, rfl, HWT.out, rfl⟩
  case round =>
    clear HWT
    obtain ⟨t, k, rfl, hk, rfl, ht, rfl⟩ := hrel
    have HWT := Lib.hid ht
    clear ht
    by_cases hlt : k < L
    · cases t
      · obtain ⟨A', c', e, _, hi⟩ := HRP.out.below HB0.out
        cases e
        obtain ⟨g, o, rfl, hi2⟩ := hi (by have := HLL.out; omega)
        obtain ⟨x, hx⟩ : ∃ x, q.b[k]? = some x := ⟨q.b[k]'(by have := HLL.out; omega), List.getElem?_eq_getElem _⟩
        have hcx : w8.cell? ⟨g, o + k, none⟩ = some (.int .u8 (x.toNat : Int)) := hi2 k x hx
        clear hi hi2
        by_cases hz : x.toNat = 0
        · have k1 : ((x.toNat : Int) != 0) = false := by simp; omega
          have k2 : ((x.toNat : Int) == 0) = true := by simp; omega
          clear hz hx
          go_wp2_with fail
          exact ⟨⟨false, k + 1, rfl, by omega, by go_num, by simp, trivial⟩, by simp [intOf]; omega⟩
        · have k1 : ((x.toNat : Int) != 0) = true := by simp; omega
          have k2 : ((x.toNat : Int) == 0) = false := by simp; omega
          have HT2 := Lib.hid (Ms.wt_b hx hz)
          clear hz hx
          go_wp2_with fail
          exact ⟨⟨true, k + 1, rfl, by omega, by go_num, fun _ => HT2.out, trivial⟩, by simp [intOf]; omega⟩
      · go_wp2_with fail
        exact ⟨⟨true, k + 1, rfl, by omega, by go_num, HWT.out, trivial⟩, by simp [intOf]; omega⟩
    · have hkL : k = L := by omega
      subst hkL
      go_upto_region 17 with fail
      obtain ⟨T, hT⟩ : ∃ T, txt q.tail = T := ⟨_, rfl⟩
      have KS : Hid (∀ W, Below w8.heap.size w8 W → W.cell? ⟨n, 1, none⟩ = some (.int .u8 q.code) ∧ W.cell? ⟨b1, 0, none⟩ = some (.int .u8 8) ∧ W.cell? ⟨b2, 0, none⟩ = some (.int .u8 0) ∧ W.cell? ⟨b1, 1, none⟩ = some (.int .u8 q.code) ∧ W.cell? ⟨b2, 1, none⟩ = some (.int .u8 q.code) ∧ (convert 23 9 (.slice (some ⟨b1, 4, none⟩) (M - 4) (M - 4))).run Try.prog W = .ok (.string T) W ∧ (convert 23 9 (.slice (some ⟨b2, 4, none⟩) (M - 4) (M - 4))).run Try.prog W = .ok (.string T) W) := fun W h => by
        have hc := HIP.out.code
        have y1 := HY1.out.below h
        have y2 := HY2.out.below h
        refine ⟨(HX0.out.below h).cells.2.1, y1.cell 0 8 (by rw [HE8.out]; rfl), y2.cell 0 0 (by rw [HE0.out]; rfl), ?_, ?_, ?_, ?_⟩
        · have k := y1.cell 1 (UInt8.ofNat q.code) (by rw [HE8.out]; rfl)
          rwa [ofNat_lt, Nat.mod_eq_of_lt hc] at k
        · have k := y2.cell 1 (UInt8.ofNat q.code) (by rw [HE0.out]; rfl)
          rwa [ofNat_lt, Nat.mod_eq_of_lt hc] at k
        · have k := (HM8.out ▸ y1.rd).backAt (K := 4) (by rw [HM8.out]; have := HM.out; omega)
          have e : l8.drop 4 = q.tail := by rw [HE8.out]; rfl
          rw [e] at k
          rw [← hT]
          exact convert_rd k
        · have k := (HM0.out ▸ y2.rd).backAt (K := 4) (by rw [HM0.out]; have := HM.out; omega)
          have e : l0.drop 4 = q.tail := by rw [HE0.out]; rfl
          rw [e] at k
          rw [← hT]
          exact convert_rd k
      clear hT
      have s1 : (4 : Int) ≤ (M : Int) := by have := HM.out; omega
      have s2 : ¬ M < 4 := by have := HM.out; omega
      have s3 : 4 ≤ M := by have := HM.out; omega
      have s6 : ¬ M = 4 := by have := HM.out; omega
      have s4 : (0 : Int) < (M : Int) := by have := HM.out; omega
      have s5 : (1 : Int) < (M : Int) := by have := HM.out; omega
      have hbl := HB0.out
      have HFIN := Lib.hid hbl
      obtain ⟨f1, f2, f3, f4, f5, _, _⟩ := KS.out w8 (Below.refl _ _)
      have g1 : ∀ k, (convert 23 9 (.slice (some ⟨b1, 4, none⟩) (M - 4) (M - 4))).run Try.prog (w8.drewN k) = .ok (.string T) (w8.drewN k) := fun k => (KS.out _ (below_drewN (Below.refl _ _) k)).2.2.2.2.2.1
      have g2 : ∀ k, (convert 23 9 (.slice (some ⟨b2, 4, none⟩) (M - 4) (M - 4))).run Try.prog (w8.drewN k) = .ok (.string T) (w8.drewN k) := fun k => (KS.out _ (below_drewN (Below.refl _ _) k)).2.2.2.2.2.2
      cases t
      · go_quiet (fail)
        go_wp2_with fail
        go_ret
        exact ⟨rfl, below_drewN HFIN.out _⟩
      · have XU2 := Lib.hid (XU.out (HWT.out rfl))
        clear XU
        go_quiet ((go_at_call 9; exact Calls.quiet_of_same (XU2.out _)))
        go_wp2_with fail
        go_ret
        exact ⟨rfl, below_drewN HFIN.out _⟩
end Go.Proofs.Ytlhanaglhkmcfaa
namespace Go.Proofs.Ytlhanaglhkmcfaa
open Go.ChangeShapes Go.WideShapes Go.RowKit

set_option maxRecDepth 100000 in
theorem icmpReplies_lifted (hc : ∀ (m0 : Ms) (A0 : Option Addr) (c0 : Nat) (w : World), m0.Fit → Rd w (.slice A0 m0.b.length c0) m0.b → c0 ≤ 9223372036854775807 → Calls Try.prog 4 #[m0.val (.slice A0 m0.b.length c0)] w fun e w' => e = .returned (.bool true) ∧ Below w.heap.size w w')
    (os : Os) (started : os.Started) (H : Type) (enc : TypeId × Value → H) :
    ReturnsInHanded {} Try.checked os 4 .any (Rows.icmpRepliesSpec.pre6 enc Try.prog Try.f4 Rows.icmpRepliesRow.domain false) (Rows.icmpRepliesSpec.post enc Try.prog Try.f4 false true false false) := by
  refine returnsInHanded_of_change (C := Try.checked) ownGodebug started (by kernel_rfl) Try.func4
    (ChangeSpec.witness6 (enc := enc) (C := Try.checked) false ⟨#[], #[.agg #[.int .u8 0, .int .u8 0, .int .u32 0, .slice none 0 0]], []⟩ 8 (by kernel_rfl) (by kernel_rfl) (by kernel_rfl) (by kernel_rfl)) ?_
  intro W base args ds gs before hval0 hW _ _
  have hval : ∀ (j : Nat) t v, Try.f4.params[j]? = some t → args[j]? = some v → Value.okWide Try.prog W .any base t v := hval0
  have hW' := hW
  obtain ⟨p, q, hA0, hV, rfl, hfz, hnd⟩ := hW
  have hA : DataW.TrodAll enc Try.prog W 0 (fun _ => true) true Try.f4.params.toList args.toList ds p := hA0
  rw [Try.params4] at hA hval
  obtain ⟨v0, vs0, d0, ds0, p0, q0, hargs, rfl, rfl, h0, r0⟩ := trodAll_cons hA
  obtain ⟨rfl, rfl, rfl⟩ := trodAll_nil r0
  obtain rfl : args = #[v0] := by cases args; simpa using hargs
  obtain ⟨rfl, rfl⟩ := trodVars_none hV
  obtain ⟨m0, A0, c0, rfl, b0, e0, a0⟩ := open_ms (hval 0 25 v0 rfl rfl) h0
  refine (hc m0 A0 c0 W a0 e0 b0).mono fun e W' ⟨he, hb⟩ => ?_
  subst he
  exact ⟨_, rfl, law_post rfl rfl rfl (by rw [Try.params4]; intro t ht; simp at ht; (try rcases ht with rfl) <;> (try subst ht) <;> exact ⟨by kernel_rfl, by rw [typesSize]; decide⟩) hW' hb⟩
theorem icmpReplies_row (hc : ∀ (m0 : Ms) (A0 : Option Addr) (c0 : Nat) (w : World), m0.Fit → Rd w (.slice A0 m0.b.length c0) m0.b → c0 ≤ 9223372036854775807 → Calls Try.prog 4 #[m0.val (.slice A0 m0.b.length c0)] w fun e w' => e = .returned (.bool true) ∧ Below w.heap.size w w') : Rows.IcmpRepliesSaid :=
  OpenClaim.holds_of_wide 4 Try.f4 rfl rfl rfl rfl rfl rfl rfl ⟨rfl, rfl, rfl, rfl, rfl⟩ rfl rfl rfl rfl rfl (by kernel_rfl) Try.func4 (by kernel_rfl)
    (of_decide_eq_true (by kernel_rfl)) (by unfold Func.isWrapper; rw [if_neg (of_decide_eq_false (by kernel_rfl))]; exact ⟨rfl, rfl⟩)
    (fun os started H enc _ => icmpReplies_lifted hc os started H enc)
end Go.Proofs.Ytlhanaglhkmcfaa
namespace Go.Proofs.Ytlhanaglhkmcfaa
theorem icmpReplies_holds : Rows.IcmpRepliesSaid := icmpReplies_row icmpReplies_any
end Go.Proofs.Ytlhanaglhkmcfaa
