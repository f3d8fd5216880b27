/-
  What is proved: RouteTells by contract: the law returns true, and older memory is as it was.
  Conditions: none but those of the arguments.
-/
import Derived.Test.YtimpellpfnmicaaRfDoes
import Derived.Deep.DeepCutAuto
namespace Go.Proofs.Ytimpellpfnmicaa
open Go.RowKit

/-- The same routes in the project's table and in the document's. -/
structure Told (w wr : World) (p q pr B : Nat) : Prop where
  both : ∃ L v, Tab wr p q L ∧ Rf wr pr B v L
  below : Below w.heap.size w wr

theorem Mv.mine' {w W W' : World} {p B : Nat} {v : Value} {L : List Rt} {o : Obj} (hm : Mv W W' p v) (_ : Rf W p B v L) (h : W.heap[w.heap.size]? = some o) (hw : Rf w p B v L) : W'.heap[w.heap.size]? = some o :=
  Mv.mine hw (Nat.le_refl _) hm h

set_option maxRecDepth 100000 in
set_option maxHeartbeats 8000000 in
theorem routeTells_con (A : Option Addr) (M c : Nat) (w : World) (hMc : M ≤ c) (hc : c ≤ 9223372036854775807) (hS : StepsAt w A M) :
    Calls Try.prog 3 #[.slice A M c] w fun e w' => e = .returned (.bool true) ∧ Below w.heap.size w w' := by
  have X0 := Lib.hid (fun W => shown_any W)
  have HN := Lib.hid (fun W => new_any W)
  have HS := Lib.hid hS
  have hM : M ≤ 9223372036854775807 := by omega
  clear hS hMc hc
  go_enter Try.func3, Try.ntmps3
  go_upto_region 3 with (first
    | (go_at_call 9; refine (X0.out _).mono ?_; rintro e w1 ⟨rfl, hB⟩; (have B1 := Lib.hid hB); clear hB)
    | (go_at_call 10; refine (HN.out _).mono ?_; rintro e w2 ⟨p, q, rfl, hT, hp, hq, hB⟩; (have T0 := Lib.hid hT); (have B0 := Lib.hid hB); (have P0 := Lib.hid (And.intro hp hq)); clear hT hB hp hq))
  have PQ : Hid (p < w2.heap.size ∧ q < w2.heap.size) := Lib.hid T0.out.lt
  have D3 := Lib.hid ((Below.refl _ w2).alloc (Nat.le_refl _) (Obj.cells #[Value.slice none 0 0] 29))
  have T3 := Lib.hid (T0.out.below D3.out)
  have R3 : Hid (Rf (w2.alloc (Obj.cells #[Value.slice none 0 0] 29)) w2.heap.size w2.heap.size (.slice none 0 0) []) := Lib.hid ⟨heap_alloc_new w2 _, ⟨none, 0, rfl, Nat.le_refl _, by omega, (fun k r hk => by simp at hk), (fun a ha => by cases ha), .inl ⟨rfl, rfl⟩⟩, List.Pairwise.nil, (fun r hr => absurd hr List.not_mem_nil), by simp⟩
  have B2 := Lib.hid (below_to B1.out B0.out B1.out.size)
  have B3 := Lib.hid (below_to B2.out D3.out B2.out.size)
  have BS : Hid (w.heap.size ≤ w2.heap.size) := Lib.hid B2.out.size
  have BS3 : Hid (w2.heap.size ≤ (w2.alloc (Obj.cells #[Value.slice none 0 0] 29)).heap.size) := Lib.hid D3.out.size
  go_upto_block 0 with fail
  generalize w2.alloc (Obj.cells #[Value.slice none 0 0] 29) = w3 at T3 R3 B3 BS3 ⊢
  generalize w2.heap.size = B at PQ R3 BS BS3 ⊢
  have QS : Hid (w.heap.size ≤ q) := Lib.hid (Nat.le_trans B1.out.size P0.out.2)
  clear D3 T0 B0 B1 B2 P0
  go_wp2_with fail
  go_loopw [6] (fun s6 wr => ∃ k : Nat, s6 = .int .i64 (k : Int) ∧ k ≤ M ∧ Told w wr p q B B ∧ B ≤ wr.heap.size) (fun s6 _ => M - (intOf s6).toNat)
  case atStart => exact ⟨0, rfl, Nat.zero_le _, ⟨⟨_, _, T3.out, R3.out⟩, B3.out⟩, BS3.out⟩
  case round =>
    obtain ⟨k, rfl, hk, ⟨⟨L, v, hT, hR⟩, hB⟩, hBr⟩ := hrel
    have HT := Lib.hid hT
    have HR := Lib.hid hR
    have HB := Lib.hid hB
    have HBr := Lib.hid hBr
    clear hT hR hB hBr T3 R3 B3 BS3
    by_cases hlt : k < M
    · have q1 : decide ((k : Int) < (M : Int)) = true := decide_eq_true (by omega)
      by_cases h2 : k < 200
      · have q2 : decide ((k : Int) < 200) = true := decide_eq_true (by omega)
        obtain ⟨g, o, ⟨kd, r, x⟩, rfl, hs, c0, c1, c2, c3, c4, c5⟩ := (HS.out.below HB.out) k hlt
        have hr := hs.r
        have hx := hs.x
        simp only at c0 c1 c2 c3 c4 c5 hr hx
        have Hs := Lib.hid hs
        have Hr := Lib.hid hr
        have Hx := Lib.hid hx
        clear hs hr hx
        obtain ⟨cc, hcc⟩ : ∃ c, stepC L ⟨kd, r, x⟩ = c := ⟨_, rfl⟩
        obtain ⟨L2, hL2⟩ : ∃ l, stepL L ⟨kd, r, x⟩ = l := ⟨_, rfl⟩
        have Hcc := Lib.hid hcc
        have HL2 := Lib.hid hL2
        clear hcc hL2
        go_upto_block 2 with fail
        go_cut [9] (fun s9 wx => s9 = .int .i64 cc ∧ ∃ v', Rf wx B B v' L2 ∧ Tab wx p q L ∧ Below w.heap.size w wx ∧ B ≤ wx.heap.size ∧ wx.heap[wr.heap.size]? = some (Stp.obj ⟨kd, r, x⟩))
        case first =>
          have WA := Lib.hid (((Below.refl wr.heap.size wr).alloc (Nat.le_refl _) (Obj.cells #[Value.int IntKind.i64 kd, Value.int IntKind.u32 r.d, Value.int IntKind.i64 r.b, Value.int IntKind.u32 r.v, Value.int IntKind.i64 r.o, Value.int IntKind.u32 x] 35)).alloc (by simp) (Obj.cells #[Value.int IntKind.u32 r.d, Value.int IntKind.i64 r.b, Value.int IntKind.u32 r.v, Value.int IntKind.i64 r.o] 36))
          have WAS := Lib.hid (((Below.refl _ (wr.alloc (Obj.cells #[Value.int IntKind.i64 kd, Value.int IntKind.u32 r.d, Value.int IntKind.i64 r.b, Value.int IntKind.u32 r.v, Value.int IntKind.i64 r.o, Value.int IntKind.u32 x] 35))).alloc (Nat.le_refl _) (Obj.cells #[Value.int IntKind.u32 r.d, Value.int IntKind.i64 r.b, Value.int IntKind.u32 r.v, Value.int IntKind.i64 r.o] 36)).block wr.heap.size (by simp) |>.trans (heap_alloc_new wr (Obj.cells #[Value.int IntKind.i64 kd, Value.int IntKind.u32 r.d, Value.int IntKind.i64 r.b, Value.int IntKind.u32 r.v, Value.int IntKind.i64 r.o, Value.int IntKind.u32 x] 35)))
          have WC := Lib.hid (((Below.refl wr.heap.size wr).alloc (Nat.le_refl _) (Obj.cells #[Value.int IntKind.i64 kd, Value.int IntKind.u32 r.d, Value.int IntKind.i64 r.b, Value.int IntKind.u32 r.v, Value.int IntKind.i64 r.o, Value.int IntKind.u32 x] 35)).alloc (by simp) (Obj.cells #[Value.int IntKind.u32 (cutI r.d r.b), Value.int IntKind.i64 r.b, Value.int IntKind.u32 r.v, Value.int IntKind.i64 r.o] 36))
          have WCS := Lib.hid (((Below.refl _ (wr.alloc (Obj.cells #[Value.int IntKind.i64 kd, Value.int IntKind.u32 r.d, Value.int IntKind.i64 r.b, Value.int IntKind.u32 r.v, Value.int IntKind.i64 r.o, Value.int IntKind.u32 x] 35))).alloc (Nat.le_refl _) (Obj.cells #[Value.int IntKind.u32 (cutI r.d r.b), Value.int IntKind.i64 r.b, Value.int IntKind.u32 r.v, Value.int IntKind.i64 r.o] 36)).block wr.heap.size (by simp) |>.trans (heap_alloc_new wr (Obj.cells #[Value.int IntKind.i64 kd, Value.int IntKind.u32 r.d, Value.int IntKind.i64 r.b, Value.int IntKind.u32 r.v, Value.int IntKind.i64 r.o, Value.int IntKind.u32 x] 35)))
          have XA := Lib.hid (fun W (hW : Below wr.heap.size wr W) => radd_any L r Hr.out B B v W (HR.out.below hW) (Nat.le_trans HBr.out hW.size))
          have XC := Lib.hid (fun W (hW : Below wr.heap.size wr W) => radd_any L r.cutr Hr.out.cutr B B v W (HR.out.below hW) (Nat.le_trans HBr.out hW.size))
          have XD := Lib.hid (fun W (hW : Below wr.heap.size wr W) => rdel_any L r.d r.b B B v W (HR.out.below hW) (Nat.le_trans HBr.out hW.size))
          have XK := Lib.hid (fun W => rcut_any r.d r.b Hr.out.d Hr.out.b W)
          unfold Rt.cutr at XC
          simp only at XC
          have hcc := Hcc.out
          have hL2 := HL2.out
          unfold stepC at hcc
          unfold stepL at hL2
          simp only at hcc hL2
          clear Hcc HL2 c0 c1 c2 c3 c4 c5
          by_cases h0 : kd = 0
          · subst h0
            rw [if_pos (Or.inl rfl)] at hcc hL2
            subst hcc hL2
            go_wp2_with (go_at_call 11; (with_reducible refine (XA.out _ WA.out).mono ?_); rintro e w5 ⟨v5, rfl, hR5, hM5⟩; (have R5 := Lib.hid hR5); (have M5 := Lib.hid hM5); clear hR5 hM5)
            go_meet
            case rel => exact ⟨rfl, v5, R5.out, (HT.out.below WA.out).moved (HR.out.below WA.out) PQ.out.1 PQ.out.2 (Nat.le_refl _) M5.out, below_mv (below_to HB.out WA.out HB.out.size) (Nat.le_trans HB.out.size WA.out.size) (HR.out.below WA.out) BS.out (Nat.le_refl _) M5.out, Nat.le_trans HBr.out (Nat.le_trans WA.out.size M5.out.size), M5.out.mine' (HR.out.below WA.out) WAS.out HR.out⟩
          · by_cases h1 : kd = 1
            · subst h1
              rw [if_pos (Or.inr rfl)] at hcc hL2
              subst hcc hL2
              go_wp2_with (go_at_call 11; (with_reducible refine (XA.out _ WA.out).mono ?_); rintro e w5 ⟨v5, rfl, hR5, hM5⟩; (have R5 := Lib.hid hR5); (have M5 := Lib.hid hM5); clear hR5 hM5)
              go_meet
              case rel => exact ⟨rfl, v5, R5.out, (HT.out.below WA.out).moved (HR.out.below WA.out) PQ.out.1 PQ.out.2 (Nat.le_refl _) M5.out, below_mv (below_to HB.out WA.out HB.out.size) (Nat.le_trans HB.out.size WA.out.size) (HR.out.below WA.out) BS.out (Nat.le_refl _) M5.out, Nat.le_trans HBr.out (Nat.le_trans WA.out.size M5.out.size), M5.out.mine' (HR.out.below WA.out) WAS.out HR.out⟩
            · have h01 : ¬ (kd = 0 ∨ kd = 1) := fun h => h.elim h0 h1
              rw [if_neg h01] at hcc hL2
              by_cases h2 : kd = 2
              · subst h2
                rw [if_pos rfl] at hcc hL2
                subst hcc hL2
                clear h0 h1 h01
                go_upto_region 18 with (go_at_call 12; (with_reducible refine (XK.out _).mono ?_); rintro e w4 ⟨rfl, rfl⟩)
                go_wp2_with (go_at_call 11; (with_reducible refine (XC.out _ WC.out).mono ?_); rintro e w5 ⟨v5, rfl, hR5, hM5⟩; (have R5 := Lib.hid hR5); (have M5 := Lib.hid hM5); clear hR5 hM5)
                go_meet
                case rel => exact ⟨rfl, v5, R5.out, (HT.out.below WC.out).moved (HR.out.below WC.out) PQ.out.1 PQ.out.2 (Nat.le_refl _) M5.out, below_mv (below_to HB.out WC.out HB.out.size) (Nat.le_trans HB.out.size WC.out.size) (HR.out.below WC.out) BS.out (Nat.le_refl _) M5.out, Nat.le_trans HBr.out (Nat.le_trans WC.out.size M5.out.size), M5.out.mine' (HR.out.below WC.out) WCS.out HR.out⟩
              · rw [if_neg h2] at hcc hL2
                by_cases h3 : kd = 3
                · subst h3
                  rw [if_pos rfl] at hcc hL2
                  subst hcc hL2
                  clear h0 h1 h01 h2
                  go_wp2_with (go_at_call 13; (with_reducible refine (XD.out _ WA.out).mono ?_); rintro e w5 ⟨v5, rfl, hR5, hM5⟩; (have R5 := Lib.hid hR5); (have M5 := Lib.hid hM5); clear hR5 hM5)
                  go_meet
                  case rel => exact ⟨rfl, v5, R5.out, (HT.out.below WA.out).moved (HR.out.below WA.out) PQ.out.1 PQ.out.2 (Nat.le_refl _) M5.out, below_mv (below_to HB.out WA.out HB.out.size) (Nat.le_trans HB.out.size WA.out.size) (HR.out.below WA.out) BS.out (Nat.le_refl _) M5.out, Nat.le_trans HBr.out (Nat.le_trans WA.out.size M5.out.size), M5.out.mine' (HR.out.below WA.out) WAS.out HR.out⟩
                · rw [if_neg h3] at hcc hL2
                  subst hcc hL2
                  have q0 : (kd == 0) = false := by simp [h0]
                  have q1 : (kd == 1) = false := by simp [h1]
                  have q2 : (kd == 2) = false := by simp [h2]
                  have q3 : (kd == 3) = false := by simp [h3]
                  clear h0 h1 h01 h2 h3
                  go_wp2_with fail
                  go_meet
                  case rel => exact ⟨rfl, v, HR.out.below WA.out, HT.out.below WA.out, below_to HB.out WA.out HB.out.size, Nat.le_trans HBr.out WA.out.size, WAS.out⟩
        case rest =>
          obtain ⟨rfl, v', hR, hT, hB, hBr, hSt⟩ := hcut
          have HGB := Lib.hid HBr.out
          generalize wr.heap.size = G at HGB hSt ⊢
          clear HT HR HB HBr c0 c1 c2 c3 c4 c5 q1 q2
          have HD := Lib.hid (does_any L ⟨kd, r, x⟩ Hs.out p q wc hT)
          rw [Hcc.out, HL2.out] at HD
          simp only at HD
          have HR2 := Lib.hid hR
          have HB2 := Lib.hid hB
          have HBr2 := Lib.hid hBr
          have HSt := Lib.hid hSt
          unfold Stp.obj at hSt
          simp only at hSt
          have s0 : wc.cell? ⟨G, 0, none⟩ = some (.int .i64 kd) := by simp [World.cell?, hSt]
          have s1 : wc.cell? ⟨G, 1, none⟩ = some (.int .u32 r.d) := by simp [World.cell?, hSt]
          have s2 : wc.cell? ⟨G, 2, none⟩ = some (.int .i64 r.b) := by simp [World.cell?, hSt]
          have s3 : wc.cell? ⟨G, 3, none⟩ = some (.int .u32 r.v) := by simp [World.cell?, hSt]
          have s4 : wc.cell? ⟨G, 4, none⟩ = some (.int .i64 r.o) := by simp [World.cell?, hSt]
          have s5 : wc.cell? ⟨G, 5, none⟩ = some (.int .u32 x) := by simp [World.cell?, hSt]
          clear hR hT hB hBr hSt Hcc HL2 Hs
          go_upto_region 22 with (go_at_call 14; (with_reducible refine HD.out.mono ?_); rintro e w5 ⟨rfl, hT, hG⟩; (have T5 := Lib.hid hT); (have G5 := Lib.hid hG); clear hT hG)
          have St5 := Lib.hid ((G5.out.block G (Array.getElem?_eq_some_iff.1 HSt.out).1 (fun e => by have := PQ.out.2; have := HGB.out; cases e; omega)).trans HSt.out)
          have R5 := Lib.hid (HR2.out.grown PQ.out.2 (Nat.le_refl _) G5.out)
          have B5 := Lib.hid (below_grown HB2.out HB2.out.size G5.out QS.out)
          have Bs5 := Lib.hid (Nat.le_trans HBr2.out G5.out.size)
          clear s0 s1 s2 s3 s4 s5 HD HR2 HB2 HBr2 HSt G5
          have s5 : w5.cell? ⟨G, 5, none⟩ = some (.int .u32 x) := by
            have h := St5.out
            unfold Stp.obj at h
            simp [World.cell?, h]
          obtain ⟨rr, hrr⟩ : ∃ r : Rt, (fnd L2 x 33).getD Rt.zero = r := ⟨_, rfl⟩
          obtain ⟨ok, hok⟩ : ∃ ok : Bool, (fnd L2 x 33).isSome = ok := ⟨_, rfl⟩
          have FA := Lib.hid (find_any L2 x Hx.out p q w5 T5.out)
          have FB := Lib.hid (fun W (hW : Below w5.heap.size w5 W) => rFind_any L2 x Hx.out B B v' W (R5.out.below hW))
          have FL := Lib.hid (fun W (hW : Below w5.heap.size w5 W) => list_any L2 p q W (T5.out.below hW))
          rw [hrr, hok] at FA FB
          unfold Rt.val at FA
          clear hrr hok
          go_upto_region 23 with (go_at_call 15; (with_reducible refine FA.out.mono ?_); rintro e w6 ⟨rfl, hB⟩; (have E6 := Lib.hid hB); clear hB)
          have D7 := Lib.hid ((Below.refl _ w6).alloc (Nat.le_refl _) (Obj.cells #[Value.int IntKind.u32 rr.d, Value.int IntKind.i64 rr.b, Value.int IntKind.u32 rr.v, Value.int IntKind.i64 rr.o] 33))
          have R7 := Lib.hid (RtAt.of_heap (r := rr) (heap_alloc_new w6 (Obj.cells #[Value.int IntKind.u32 rr.d, Value.int IntKind.i64 rr.b, Value.int IntKind.u32 rr.v, Value.int IntKind.i64 rr.o] 33)))
          have E7 := Lib.hid (below_to E6.out D7.out E6.out.size)
          generalize w6.alloc (Obj.cells #[Value.int IntKind.u32 rr.d, Value.int IntKind.i64 rr.b, Value.int IntKind.u32 rr.v, Value.int IntKind.i64 rr.o] 33) = w7 at R7 E7 ⊢
          generalize w6.heap.size = g1 at R7 ⊢
          have s7 := (E7.out.cell (World.block_lt_of_cell? w5 _ s5)).trans s5
          clear D7 E6 FA s5
          go_upto_region 24 with (go_at_call 16; (with_reducible refine (FB.out _ E7.out).mono ?_); rintro e w8 ⟨rfl, hB⟩; (have E8 := Lib.hid (below_to E7.out hB E7.out.size)); (have R8 := Lib.hid (R7.out.below hB)); clear hB)
          have D9 := Lib.hid ((Below.refl _ w8).alloc (Nat.le_refl _) (Obj.cells #[Value.int IntKind.u32 rr.d, Value.int IntKind.i64 rr.b, Value.int IntKind.u32 rr.v, Value.int IntKind.i64 rr.o] 36))
          have S9 := Lib.hid (RtAt.of_rheap (r := rr) (heap_alloc_new w8 (Obj.cells #[Value.int IntKind.u32 rr.d, Value.int IntKind.i64 rr.b, Value.int IntKind.u32 rr.v, Value.int IntKind.i64 rr.o] 36)))
          have E9 := Lib.hid (below_to E8.out D9.out E8.out.size)
          have R9 := Lib.hid (R8.out.below D9.out)
          generalize w8.alloc (Obj.cells #[Value.int IntKind.u32 rr.d, Value.int IntKind.i64 rr.b, Value.int IntKind.u32 rr.v, Value.int IntKind.i64 rr.o] 36) = w9 at R9 S9 E9 ⊢
          generalize w8.heap.size = g3 at S9 ⊢
          clear D9 E8 R8 R7 E7 FB s7
          go_upto_region 25 with (go_at_call 17; (with_reducible refine (FL.out _ E9.out).mono ?_); rintro e wl ⟨Al, cl, rfl, hl1, hl2, hl3, _, hB⟩; (have EL := Lib.hid (below_to E9.out hB E9.out.size)); (have RIl := Lib.hid hl3); (have RL := Lib.hid (R9.out.below hB)); (have SL := Lib.hid (S9.out.below hB)); clear hB hl3)
          clear FL R9 S9 E9
          have HRl := Lib.hid (R5.out.below EL.out)
          have HTl := Lib.hid (T5.out.below EL.out)
          have HBl := Lib.hid (below_to B5.out EL.out B5.out.size)
          have HBs := Lib.hid (Nat.le_trans Bs5.out EL.out.size)
          have Stl := Lib.hid ((EL.out.block G (Array.getElem?_eq_some_iff.1 St5.out).1).trans St5.out)
          clear R5 T5 B5 Bs5 St5 EL
          obtain ⟨A3, c3, rfl, hc3, hc4, hRI3⟩ := HRl.out.open
          have RI3 := Lib.hid hRI3
          have h64 := HTl.out.few
          clear hRI3
          have KS : Hid (∀ W', Below wl.heap.size wl W' → (fun W' => W'.cell? ⟨g1, 0, none⟩ = some (.int .u32 rr.d) ∧ W'.cell? ⟨g1, 1, none⟩ = some (.int .i64 rr.b) ∧ W'.cell? ⟨g1, 2, none⟩ = some (.int .u32 rr.v) ∧ W'.cell? ⟨g1, 3, none⟩ = some (.int .i64 rr.o) ∧ W'.cell? ⟨g3, 0, none⟩ = some (.int .u32 rr.d) ∧ W'.cell? ⟨g3, 1, none⟩ = some (.int .i64 rr.b) ∧ W'.cell? ⟨g3, 2, none⟩ = some (.int .u32 rr.v) ∧ W'.cell? ⟨g3, 3, none⟩ = some (.int .i64 rr.o) ∧ W'.cell? ⟨G, 2, none⟩ = some (.int .i64 r.b) ∧ W'.cell? ⟨G, 5, none⟩ = some (.int .u32 x) ∧ W'.cell? ⟨B, 0, none⟩ = some (.slice A3 L2.length c3)) W') := Lib.hid (fun W' hW => by
            have a := RL.out.below hW
            have b := SL.out.below hW
            have s := (hW.block G (Array.getElem?_eq_some_iff.1 Stl.out).1).trans Stl.out
            unfold Stp.obj at s
            exact ⟨a.c0, a.c1, a.c2, a.c3, b.c0, b.c1, b.c2, b.c3, by simp [World.cell?, s], by simp [World.cell?, s], (HRl.out.below hW).cell⟩)
          obtain ⟨y, hy⟩ : ∃ y, cutI x r.b = y := ⟨_, rfl⟩
          have XS := Lib.hid (fun W => same_any rr rr W)
          have X1 := Lib.hid (fun W => cut_any x r.b Hx.out W)
          have X2 := Lib.hid (fun W => rcut_any x r.b Hx.out Hr.out.b W)
          rw [show eqB rr rr = true from eqB_iff.2 rfl] at XS
          rw [hy] at X1 X2
          clear hy
          go_region_held_law (fun W' => W'.cell? ⟨g1, 0, none⟩ = some (.int .u32 rr.d) ∧ W'.cell? ⟨g1, 1, none⟩ = some (.int .i64 rr.b) ∧ W'.cell? ⟨g1, 2, none⟩ = some (.int .u32 rr.v) ∧ W'.cell? ⟨g1, 3, none⟩ = some (.int .i64 rr.o) ∧ W'.cell? ⟨g3, 0, none⟩ = some (.int .u32 rr.d) ∧ W'.cell? ⟨g3, 1, none⟩ = some (.int .i64 rr.b) ∧ W'.cell? ⟨g3, 2, none⟩ = some (.int .u32 rr.v) ∧ W'.cell? ⟨g3, 3, none⟩ = some (.int .i64 rr.o) ∧ W'.cell? ⟨G, 2, none⟩ = some (.int .i64 r.b) ∧ W'.cell? ⟨G, 5, none⟩ = some (.int .u32 x) ∧ W'.cell? ⟨B, 0, none⟩ = some (.slice A3 L2.length c3))
            (first | exact KS.out _ (below_drew wl) | exact KS.out _ HQ.out)
            (first
              | (go_at_call 18; (with_reducible refine (XS.out _).mono ?_); rintro e wm ⟨rfl, hB⟩; (have HQ := Lib.hid (below_to (below_drew wl) hB (below_drew wl).size)); clear hB)
              | (go_at_call 19; (with_reducible refine (X1.out _).mono ?_); rintro e wn ⟨rfl, rfl⟩)
              | (go_at_call 12; (with_reducible refine (X2.out _).mono ?_); rintro e wo ⟨rfl, rfl⟩))
          clear KS XS X1 X2
          go_wp2_with fail
          go_loopw [16] (fun s16 wr => ∃ j : Nat, s16 = .int .i64 (j : Int) ∧ j ≤ L2.length ∧ Below wl.heap.size wl wr) (fun s16 _ => L2.length - (intOf s16).toNat)
          case atStart => exact ⟨0, rfl, Nat.zero_le _, HQ.out⟩
          case round =>
            obtain ⟨j, rfl, hj, hbr⟩ := hrel
            have Hbr := Lib.hid hbr
            clear hbr HQ
            by_cases hlj : j < L2.length
            · have q1 : decide ((j : Int) < (L2.length : Int)) = true := decide_eq_true (by omega)
              obtain ⟨t, ht⟩ : ∃ t, L2[j]? = some t := ⟨L2[j], List.getElem?_eq_getElem hlj⟩
              obtain ⟨h1, u1, rfl, a0, a1, a2, a3⟩ := (RIl.out.below Hbr.out) j t ht
              obtain ⟨h3, u3, rfl, b0, b1, b2, b3⟩ := (RI3.out.below Hbr.out) j t ht
              have hp := (HRl.out.below Hbr.out).cell
              have KS : Hid (∀ W', Below wr.heap.size wr W' → (fun W' => W'.cell? ⟨h1, u1 + j * 4, none⟩ = some (.int .u32 t.d) ∧ W'.cell? ⟨h1, u1 + j * 4 + 1, none⟩ = some (.int .i64 t.b) ∧ W'.cell? ⟨h1, u1 + j * 4 + 2, none⟩ = some (.int .u32 t.v) ∧ W'.cell? ⟨h1, u1 + j * 4 + 3, none⟩ = some (.int .i64 t.o) ∧ W'.cell? ⟨h3, u3 + j * 4, none⟩ = some (.int .u32 t.d) ∧ W'.cell? ⟨h3, u3 + j * 4 + 1, none⟩ = some (.int .i64 t.b) ∧ W'.cell? ⟨h3, u3 + j * 4 + 2, none⟩ = some (.int .u32 t.v) ∧ W'.cell? ⟨h3, u3 + j * 4 + 3, none⟩ = some (.int .i64 t.o) ∧ W'.cell? ⟨B, 0, none⟩ = some (.slice (some ⟨h3, u3, none⟩) L2.length c3)) W') := Lib.hid (fun W' hW => by
                have hc : ∀ {a : Addr} {v : Value}, wr.cell? a = some v → W'.cell? a = some v := fun hi => (hW.cell (World.block_lt_of_cell? wr _ hi)).trans hi
                exact ⟨hc a0, hc a1, hc a2, hc a3, hc b0, hc b1, hc b2, hc b3, hc hp⟩)
              have XS := Lib.hid (fun W => same_any t t W)
              rw [show eqB t t = true from eqB_iff.2 rfl] at XS
              clear ht a0 a1 a2 a3 b0 b1 b2 b3 hp
              go_upto_region 30 with fail
              go_region_held_law (fun W' => W'.cell? ⟨h1, u1 + j * 4, none⟩ = some (.int .u32 t.d) ∧ W'.cell? ⟨h1, u1 + j * 4 + 1, none⟩ = some (.int .i64 t.b) ∧ W'.cell? ⟨h1, u1 + j * 4 + 2, none⟩ = some (.int .u32 t.v) ∧ W'.cell? ⟨h1, u1 + j * 4 + 3, none⟩ = some (.int .i64 t.o) ∧ W'.cell? ⟨h3, u3 + j * 4, none⟩ = some (.int .u32 t.d) ∧ W'.cell? ⟨h3, u3 + j * 4 + 1, none⟩ = some (.int .i64 t.b) ∧ W'.cell? ⟨h3, u3 + j * 4 + 2, none⟩ = some (.int .u32 t.v) ∧ W'.cell? ⟨h3, u3 + j * 4 + 3, none⟩ = some (.int .i64 t.o) ∧ W'.cell? ⟨B, 0, none⟩ = some (.slice (some ⟨h3, u3, none⟩) L2.length c3))
                (first | exact KS.out _ (below_drew wr) | exact KS.out _ HQ.out)
                (first | (go_at_call 18; (with_reducible refine (XS.out _).mono ?_); rintro e wm ⟨rfl, hB⟩; (have HQ := Lib.hid (below_to (below_drew wr) hB (below_drew wr).size)); clear hB))
              clear KS XS
              go_wp2_with fail
              exact ⟨⟨j + 1, by simp, by omega, below_to Hbr.out HQ.out Hbr.out.size⟩, by simp [intOf]; omega⟩
            · have q1 : decide ((j : Int) < (L2.length : Int)) = false := decide_eq_false (by omega)
              go_wp2_with fail
              exact ⟨⟨k + 1, by simp, by omega, ⟨⟨L2, _, HTl.out.below Hbr.out, HRl.out.below Hbr.out⟩, below_to HBl.out Hbr.out HBl.out.size⟩, Nat.le_trans HBs.out Hbr.out.size⟩, by simp [intOf]; omega⟩
      · have q2 : decide ((k : Int) < 200) = false := decide_eq_false (by omega)
        go_wp2_with fail
        go_ret
        exact ⟨rfl, HB.out⟩
    · have q1 : decide ((k : Int) < (M : Int)) = false := decide_eq_false (by omega)
      go_wp2_with fail
      go_ret
      exact ⟨rfl, HB.out⟩
end Go.Proofs.Ytimpellpfnmicaa
