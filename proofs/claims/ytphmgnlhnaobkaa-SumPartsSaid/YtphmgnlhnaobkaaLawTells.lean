/-
  What is proved: the law SumTells answers true for any parts and numbers, and leaves all older memory as it was.
  Conditions: none but that the slice is of fewer than 2^63 elements, and the numbers fit their kinds.
-/
import Derived.Test.YtphmgnlhnaobkaaSParts
import Derived.Test.YtphmgnlhnaobkaaSRef
namespace Go.Proofs.Ytphmgnlhnaobkaa
open Go.RowKit

theorem PartsAt.below {w W : World} {A : Option Addr} {M : Nat} (h : PartsAt w A M) (hb : Below w.heap.size w W) : PartsAt W A M := by
  intro k hk
  obtain ⟨g, o, B, bs, c, e, hc, hm, hr⟩ := h k hk
  exact ⟨g, o, B, bs, c, e, (hb.cell (World.block_lt_of_cell? w _ hc)).trans hc, hm, hr.below hb⟩
theorem RdL.below {w W : World} {v : Value} {bss : List (List UInt8)} (h : RdL w v bss) (hb : Below w.heap.size w W) : RdL W v bss := by
  obtain ⟨A, c, e, hc, hcell⟩ := h
  refine ⟨A, c, e, hc, fun h0 => ?_⟩
  obtain ⟨g, o, e, hi⟩ := hcell h0
  refine ⟨g, o, e, fun i bs hb' => ?_⟩
  obtain ⟨u, hu, hr⟩ := hi i bs hb'
  exact ⟨u, (hb.cell (World.block_lt_of_cell? w _ hu)).trans hu, hr.below hb⟩

set_option maxRecDepth 100000 in
set_option maxHeartbeats 8000000 in
theorem tells_any (A0 : Option Addr) (M0 c0 : Nat) (a b c s d p : Nat) (n : Int) (w : World) (hM : M0 ≤ c0) (hc0 : c0 ≤ 9223372036854775807) (hp0 : PartsAt w A0 M0) (ha : a ≤ 65535) (hb : b ≤ 65535) (hc : c ≤ 65535) (hs : s < 4294967296) (hd : d < 4294967296) (hp : p < 256) :
    Calls Try.prog 3 #[.slice A0 M0 c0, .int .u16 (a : Int), .int .u16 (b : Int), .int .u16 (c : Int), .int .u32 (s : Int), .int .u32 (d : Int), .int .u8 (p : Int), .int .i64 n] w fun e w' => e = .returned (.bool true) ∧ Below w.heap.size w w' := by
  have HP := Lib.hid hp0
  clear hp0
  go_enter Try.func3, Try.ntmps3
  go_wp2_with fail
  refine (shown_any w).mono ?_
  rintro e w0 ⟨rfl, hb0⟩
  have B0 := Lib.hid hb0
  clear hb0
  go_wp2_with fail
  refine (parts_any A0 M0 c0 w0 hM hc0 (HP.out.below B0.out)).mono ?_
  rintro e w1 ⟨v, vs, bss, rfl, hbl, hpo⟩
  have hfl : bss.flatten.length ≤ 2000 := by
    have := flatten_le bss 200 hpo.small
    omega
  have R1 := Lib.hid hpo.rdl
  have B1 := Lib.hid (below_to B0.out hpo.old B0.out.size)
  clear hpo B0 HP
  go_wp2_with fail
  refine (refSum_any bss.flatten (by omega) w1).mono ?_
  rintro e w2' ⟨rfl, m, hw2⟩
  have hdr : Below w1.heap.size w1 w2' := by subst hw2; exact ⟨rfl, rfl, rfl, Nat.le_refl _, fun _ _ => rfl⟩
  have R2 := Lib.hid (R1.out.below hdr)
  have B2 := Lib.hid (below_to B1.out hdr B1.out.size)
  clear hw2 hdr R1 B1
  have R3 : RdL w2'.drew v bss := R2.out.below (Below.refl _ _).drew
  have B3 : Below w.heap.size w w2'.drew := below_to B2.out (Below.refl _ _).drew B2.out.size
  have CS := Lib.hid (Sum_any v bss w2'.drew R3 (by omega) (by omega))
  have CV : Hid (Calls Try.prog 14 #[v] w2'.drew fun e w' => e = .returned (.bool (((ck bss.flatten : Nat) : Int) == 0)) ∧ w2'.drew = w') := by
    have h := Valid_any v bss w2'.drew R3 (by omega) (by omega)
    rw [← beq_dec] at h
    exact h
  have CU := Lib.hid (Update_any a b c ha hb hc w2'.drew)
  have CR := Lib.hid (refUpdate_any a b c ha hb hc w2'.drew)
  have hx := ck_le bss.flatten
  obtain ⟨T, hT⟩ : ∃ T, T = txt (psd s d p n) := ⟨_, rfl⟩
  have CP : Hid (Calls Try.prog 17 #[.int .u32 (s : Int), .int .u32 (d : Int), .int .u8 (p : Int), .int .i64 n] w2'.drew fun e w' => e = .returned (.slice (some ⟨w2'.heap.size, 0, none⟩) 12 12) ∧ (convert 32 9 (.slice (some ⟨w2'.heap.size, 0, none⟩) 12 12)).run Try.prog w' = .ok (.string T) w' ∧ Rd w' (.slice (some ⟨w2'.heap.size, 0, none⟩) 12 12) (psd s d p n) ∧ Below w.heap.size w w') := by
    refine (Pseudo_any s d p n hp w2'.drew).mono ?_
    rintro e w' ⟨rfl, rfl⟩
    have hr : Rd (w2'.drew.alloc (bytesObj (psd s d p n))) (.slice (some ⟨w2'.drew.heap.size, 0, none⟩) 12 12) (psd s d p n) := Rd.of_obj (bytesObj_new _ _) (Nat.le_refl _)
    rw [World.size_drew] at hr ⊢
    exact ⟨rfl, by rw [hT]; exact convert_rd hr, hr, B3.alloc B3.size _⟩
  have CQ : Hid (∀ W, Rd W (.slice (some ⟨w2'.heap.size, 0, none⟩) 12 12) (psd s d p n) → Below w.heap.size w W → Calls Try.prog 18 #[.int .u32 (s : Int), .int .u32 (d : Int), .int .u8 (p : Int), .int .i64 n] W fun e w' => e = .returned (.string T) ∧ (convert 32 9 (.slice (some ⟨w2'.heap.size, 0, none⟩) 12 12)).run Try.prog w' = .ok (.string T) w' ∧ Below w.heap.size w w') := by
    intro W hr hbW
    refine (refPseudo_any s d p n hs hd hp W).mono ?_
    rintro e w' ⟨rfl, hb'⟩
    exact ⟨by rw [hT], by rw [hT]; exact convert_rd (hr.below hb'), below_to hbW hb' hbW.size⟩
  clear hT R3 R2 B3 B2
  generalize ck bss.flatten = x at *
  generalize (65535 - fold (65535 - a + (65535 - b) + c) : Nat) = y at *
  go_wp2_with fail
  go_region_held (fun _ => True) (trivial) (first | (go_at_call 13; refine CS.out.mono ?_; rintro e w' ⟨rfl, rfl⟩) | (go_at_call 14; refine CV.out.mono ?_; rintro e w' ⟨rfl, rfl⟩) | (go_at_call 15; refine CU.out.mono ?_; rintro e w' ⟨rfl, rfl⟩) | (go_at_call 16; refine CR.out.mono ?_; rintro e w' ⟨rfl, rfl⟩) | (go_at_call 17; refine CP.out.mono ?_; rintro e w3 ⟨rfl, hcv, hr3, hb3⟩; (have RP := Lib.hid hr3); (have BP := Lib.hid hb3); clear hr3 hb3) | (go_at_call 18; refine (CQ.out _ RP.out BP.out).mono ?_; rintro e w4 ⟨rfl, hcv4, hb4⟩; (have BQ := Lib.hid hb4); clear hb4))
  all_goals (try go_wp2_with fail)
  all_goals (go_ret; exact ⟨rfl, BQ.out⟩)
end Go.Proofs.Ytphmgnlhnaobkaa
