/-
  What is proved: RouteOrder by contract: the law returns true, and older memory is as it was.
  Conditions: the address fits its type.
-/
import Derived.Test.YtimpellpfnmicaaRtRow
import Derived.Deep.DeepCutAuto
import Derived.BigQuiet
namespace Go.Proofs.Ytimpellpfnmicaa
open Go.RowKit Go.Maps Go.Sort Go.Shelf

theorem ownBlock_ge {w : World} {base : Nat} {e : TypeId} {size n : Nat} {v : Value} {xs : List Value} (h : w.ownsRow base e size v n xs) : ∀ j, v.ownBlock = some j → base ≤ j := by
  rcases h.2 with ⟨rfl, _⟩ | ⟨g, cap, cur, rfl, hb, _⟩
  · intro j hj
    cases hj
  · intro j hj
    obtain rfl : g = j := by simpa [Value.ownBlock] using hj
    exact hb
theorem ownsRow_dN {w : World} {base : Nat} {e : TypeId} {size n : Nat} {v : Value} {xs : List Value} (h : w.ownsRow base e size v n xs) (m : Nat) : (w.drewN m).ownsRow base e size v n xs := h
theorem ownsRow_below {w w' : World} {base : Nat} {e : TypeId} {size n : Nat} {v : Value} {xs : List Value} (h : w.ownsRow base e size v n xs) (hb : Below w.heap.size w w') : w'.ownsRow base e size v n xs :=
  h.kept (row := none) ⟨hb.os, hb.tape, hb.output, hb.size, fun i hi _ => hb.block i hi⟩ (by cases v.ownBlock <;> simp)

theorem below_al' {B : Nat} {w b : World} (h : Below B w b) (o : Obj) (hB : B ≤ b.heap.size) : Below B w (b.alloc o) := h.alloc hB o

/-- Routes of one's own, of unlike keys, behind the world w3. -/
structure Mine (w3 : World) (v : Value) (O : List Rt) (wr : World) : Prop where
  below : Below w3.heap.size w3 wr
  row : wr.ownsRow w3.heap.size 33 4 v O.length (O.flatMap encRt')
  apart : Apart O
  few : O.length ≤ 60

/-- Two tables that were built of the first k of a row, one from its head and one from its end. -/
structure Two (w wr : World) (pa qa pb qb : Nat) (Ao : Option Addr) (O : List Rt) (k : Nat) : Prop where
  below : Below w.heap.size w wr
  rts : RtsIn wr Ao O
  a : ∃ L, Tab wr pa qa L ∧ Has L O k
  b : ∃ L, Tab wr pb qb L ∧ Has L O.reverse k

set_option maxRecDepth 100000 in
set_option maxHeartbeats 8000000 in
theorem routeOrder_con (A : Option Addr) (M c : Nat) (x : Int) (w : World) (hMc : M ≤ c) (hc : c ≤ 9223372036854775807) (hS : RtsAt w A M) (hx : U32 x) :
    Calls Try.prog 5 #[.slice A M c, .int .u32 x] w fun e w' => e = .returned (.bool true) ∧ Below w.heap.size w w' := by
  have X0 := Lib.hid (fun W => shown_any W)
  have HN := Lib.hid (fun W => new_any W)
  have Hx := Lib.hid hx
  have HS := Lib.hid hS
  have hM : M ≤ 9223372036854775807 := by omega
  clear hx hS hMc hc
  go_enter Try.func5, Try.ntmps5
  go_upto_region 3 with (first
    | (go_at_call 9; refine (X0.out _).mono ?_; rintro e w1 ⟨rfl, hB⟩; (have B1 := Lib.hid hB); clear hB)
    | (go_at_call 10; refine (HN.out _).mono ?_; rintro e w2 ⟨pa, qa, rfl, hT, hp, hq, hB⟩; (have TA := Lib.hid hT); (have B0 := Lib.hid hB); (have PA := Lib.hid (And.intro hp hq)); clear hT hB hp hq))
  go_upto_block 0 with (go_at_call 10; refine (HN.out _).mono ?_; rintro e w3 ⟨pb, qb, rfl, hT, hp, hq, hB⟩; (have TB := Lib.hid hT); (have B00 := Lib.hid hB); (have PB := Lib.hid (And.intro hp hq)); clear hT hB hp hq)
  have TA3 := Lib.hid (TA.out.below B00.out)
  have B3 := Lib.hid (below_to B1.out (below_to B0.out B00.out B0.out.size) B1.out.size)
  have QA : Hid (w.heap.size ≤ qa ∧ w.heap.size ≤ qb) := Lib.hid ⟨Nat.le_trans B1.out.size PA.out.2, Nat.le_trans B1.out.size (Nat.le_trans B0.out.size PB.out.2)⟩
  have NE : Hid (qa ≠ qb ∧ pb ≠ qa ∧ pa ≠ qb) := Lib.hid (by
    have h1 := TA.out.lt
    have h2 := PB.out
    exact ⟨by omega, by omega, by omega⟩)
  clear TA B1 B0 B00 PA PB
  go_cut [8] (fun s8 wx => ∃ O, Mine w3 s8 O wx)
  case first =>
    go_wp2_with fail
    go_loopw [8, 9] (fun s8 s9 wr => ∃ (k : Nat) (O : List Rt), s9 = .int .i64 (k : Int) ∧ k ≤ M ∧ Mine w3 s8 O wr) (fun _ s9 _ => M - (intOf s9).toNat)
    case atStart => exact ⟨0, [], rfl, Nat.zero_le _, Below.refl _ _, World.ownsRow_nil _ _ _ _, Apart.nil, by simp⟩
    case round =>
      obtain ⟨k, O, rfl, hk, hMi⟩ := hrel
      obtain ⟨Ao, co, rfl, hc1, hc2, hRI⟩ := rtsIn_of_owns hMi.row
      have HMi := Lib.hid hMi
      have RI := Lib.hid hRI
      have h60 := hMi.few
      clear hMi hRI
      by_cases hlt : k < M
      · have q1 : decide ((k : Int) < (M : Int)) = true := decide_eq_true (by omega)
        by_cases h6 : O.length < 60
        · have q2 : decide ((O.length : Int) < 60) = true := decide_eq_true (by omega)
          obtain ⟨g, o, s, rfl, hs, c0, c1, c2, c3⟩ := (HS.out.below (below_to B3.out HMi.out.below B3.out.size)) k hlt
          obtain ⟨b5, hb5⟩ : ∃ b, bits .and .i64 s.b 31 = b := ⟨_, rfl⟩
          obtain ⟨y, hy⟩ : ∃ y, cutI s.d b5 = y := ⟨_, rfl⟩
          have hcut := Lib.hid (fun W => cut_same s.d b5 hs.d W)
          rw [hy] at hcut
          have HXR : Hid (Rt.Right ⟨y, b5, s.v, s.o⟩) := Lib.hid (by
            have h1 : 0 ≤ b5 ∧ b5 ≤ 31 := by rw [← hb5, and_31]; omega
            exact ⟨⟨hy ▸ cut_u32 hs.d b5, (show I64 b5 from ⟨by omega, by omega⟩), hs.v, hs.o⟩, h1.1, (show b5 ≤ 32 by omega), (show cutI y b5 = y by rw [← hy, cut_cut, Int.min_self])⟩)
          clear hs hy
          go_upto_block 2 with (go_at_call 19; (with_reducible refine (hcut.out _).mono ?_); rintro e w4 ⟨rfl, rfl⟩)
          have D5 := Lib.hid ((Below.refl _ wr).alloc (Nat.le_refl _) (Obj.cells #[Value.int IntKind.u32 y, Value.int IntKind.i64 b5, Value.int IntKind.u32 s.v, Value.int IntKind.i64 s.o] 33))
          have M5 := Lib.hid (below_to HMi.out.below D5.out HMi.out.below.size)
          have O5 := Lib.hid (ownsRow_below HMi.out.row D5.out)
          have RI5 := Lib.hid (RI.out.below D5.out)
          have R5 := Lib.hid (RtAt.of_heap (r := ⟨y, b5, s.v, s.o⟩) (heap_alloc_new wr (Obj.cells #[Value.int IntKind.u32 y, Value.int IntKind.i64 b5, Value.int IntKind.u32 s.v, Value.int IntKind.i64 s.o] 33)))
          generalize wr.alloc (Obj.cells #[Value.int IntKind.u32 y, Value.int IntKind.i64 b5, Value.int IntKind.u32 s.v, Value.int IntKind.i64 s.o] 33) = w5 at M5 O5 RI5 R5 ⊢
          generalize wr.heap.size = gx at R5 ⊢
          clear D5 RI c0 c1 c2 c3 hb5 q1 q2
          have HA := Lib.hid HMi.out.apart
          clear HMi
          go_wp2_with fail
          go_loopw [11, 12] (fun s11 s12 wi => ∃ (j n : Nat), s12 = .int .i64 (j : Int) ∧ j ≤ O.length ∧ s11 = .bool ((O.take j).any (skB ⟨y, b5, s.v, s.o⟩)) ∧ wi = w5.drewN n) (fun _ s12 _ => O.length - (intOf s12).toNat)
          case atStart => exact ⟨0, 0, rfl, Nat.zero_le _, rfl, rfl⟩
          case round =>
            obtain ⟨j, n, rfl, hj, rfl, rfl⟩ := hrel
            obtain ⟨r0, r1, r2, r3⟩ := R5.out
            by_cases hlt2 : j < O.length
            · have q3 : decide ((j : Int) < (O.length : Int)) = true := decide_eq_true (by omega)
              obtain ⟨t, ht⟩ : ∃ t, O[j]? = some t := ⟨O[j], List.getElem?_eq_getElem hlt2⟩
              obtain ⟨g2, o2, rfl, d0, d1, d2, d3⟩ := RI5.out j t ht
              obtain ⟨th, hth⟩ : ∃ th, (O.take j).any (skB ⟨y, b5, s.v, s.o⟩) = th := ⟨_, rfl⟩
              rw [hth]
              have Hth2 : Hid ((O.take (j + 1)).any (skB ⟨y, b5, s.v, s.o⟩) = (th || (t.d == y && t.b == b5))) := Lib.hid (by
                rw [List.take_add_one, ht, List.any_append, hth]
                simp [skB])
              clear hth ht
              cases th with
              | true =>
                go_upto_region 17 with fail
                go_quiet (fail)
                go_wp2_with fail
                exact ⟨⟨j + 1, n + nq, by simp, by omega, by rw [Hth2.out]; rfl, rfl⟩, by simp [intOf]; omega⟩
              | false =>
                by_cases hd : t.d = y
                · have qd : (t.d == y) = true := beq_iff_eq.2 hd
                  obtain ⟨qe, hqe⟩ : ∃ qe, (t.b == b5) = qe := ⟨_, rfl⟩
                  rw [qd, hqe] at Hth2
                  clear hd
                  go_upto_region 17 with fail
                  go_quiet (fail)
                  go_wp2_with fail
                  exact ⟨⟨j + 1, n + nq, by simp, by omega, by rw [Hth2.out]; rfl, rfl⟩, by simp [intOf]; omega⟩
                · have qd : (t.d == y) = false := beq_eq_false_iff_ne.2 hd
                  rw [qd] at Hth2
                  clear hd
                  go_upto_region 17 with fail
                  go_quiet (fail)
                  go_wp2_with fail
                  exact ⟨⟨j + 1, n + nq, by simp, by omega, by rw [Hth2.out]; rfl, rfl⟩, by simp [intOf]; omega⟩
            · have q3 : decide ((j : Int) < (O.length : Int)) = false := decide_eq_false (by omega)
              obtain rfl : j = O.length := by omega
              rw [List.take_length]
              obtain ⟨tw, htw⟩ : ∃ tw, O.any (skB ⟨y, b5, s.v, s.o⟩) = tw := ⟨_, rfl⟩
              rw [htw]
              have Htw := Lib.hid htw
              clear htw hlt2 hj
              cases tw with
              | true =>
                go_wp2_with fail
                exact ⟨⟨k + 1, O, by simp, by omega, below_dN M5.out n, ownsRow_dN O5.out n, HA.out, h60⟩, by simp [intOf]; omega⟩
              | false =>
                obtain ⟨i0, hi, hz0, hz1, hz2⟩ := info_parts rt_info
                obtain ⟨w6, hw6⟩ : ∃ w6, w5.drewN n = w6 := ⟨_, rfl⟩
                have f0 : w6.cell? ⟨gx, 0, none⟩ = some (.int .u32 y) := by rw [← hw6]; exact r0
                have f1 : w6.cell? ⟨gx, 1, none⟩ = some (.int .i64 b5) := by rw [← hw6]; exact r1
                have f2 : w6.cell? ⟨gx, 2, none⟩ = some (.int .u32 s.v) := by rw [← hw6]; exact r2
                have f3 : w6.cell? ⟨gx, 3, none⟩ = some (.int .i64 s.o) := by rw [← hw6]; exact r3
                have M6 := Lib.hid (below_dN M5.out n)
                have O6 := Lib.hid (ownsRow_dN O5.out n)
                rw [hw6] at M6 O6 ⊢
                clear hw6 r0 r1 r2 r3 q3
                go_wp2_with (at_builtin; refine wpList_append_own _ rfl _ _ 46 rfl w3.heap.size 33 i0 Rt.zero.val 4 32 Try.underlying46 hi hz0 hz1 hz2 rfl (by decide) _ _ _ rfl (O6.out.alloc _) ⟨w6.heap.size, 0, none⟩ 1 1 [.int .u32 y, .int .i64 b5, .int .u32 s.v, .int .i64 s.o] rfl rfl (cells_new w6 [.int .u32 y, .int .i64 b5, .int .u32 s.v, .int .i64 s.o] 33) (by simp [Value.oneCell']) (by unfold maxLen; omega) (by omega) (by have := M6.out.size; simp; omega) ?_; intro v' w7 hown' hgrow _; (have O7 := Lib.hid hown'); (have G7 := Lib.hid hgrow); clear hown' hgrow)
                exact ⟨⟨k + 1, O ++ [⟨y, b5, s.v, s.o⟩], by simp, by omega, (below_al' M6.out _ M6.out.size).grown G7.out (by have := M6.out.size; simp; omega) (ownBlock_ge O6.out), by simpa [encRt'] using O7.out, HA.out.snoc HXR.out Htw.out, by simp; omega⟩, by simp [intOf]; omega⟩
        · have q2 : decide ((O.length : Int) < 60) = false := decide_eq_false (by omega)
          go_wp2_with fail
          go_meet
          case rel => exact ⟨O, HMi.out⟩
      · have q1 : decide ((k : Int) < (M : Int)) = false := decide_eq_false (by omega)
        go_wp2_with fail
        go_meet
        case rel => exact ⟨O, HMi.out⟩
  case rest =>
    obtain ⟨O, hMi⟩ := hcut
    obtain ⟨Ao, co, rfl, hc1, hc2, hRI⟩ := rtsIn_of_owns hMi.row
    have RI := Lib.hid hRI
    have HA := Lib.hid hMi.apart
    have h60 := hMi.few
    have TA4 := Lib.hid (TA3.out.below hMi.below)
    have TB4 := Lib.hid (TB.out.below hMi.below)
    have BW := Lib.hid (below_to B3.out hMi.below B3.out.size)
    clear hMi hRI TA3 TB B3 X0 HN
    go_wp2_with fail
    go_loopw [13] (fun s13 wr => ∃ k : Nat, s13 = .int .i64 (k : Int) ∧ k ≤ O.length ∧ Two w wr pa qa pb qb Ao O k) (fun s13 _ => O.length - (intOf s13).toNat)
    case atStart => exact ⟨0, rfl, Nat.zero_le _, BW.out, RI.out, ⟨_, TA4.out, Has.zero _⟩, ⟨_, TB4.out, Has.zero _⟩⟩
    case round =>
      obtain ⟨k, rfl, hk, ⟨hB, hR, ⟨La, hTa, hLa⟩, ⟨Lb, hTb, hLb⟩⟩⟩ := hrel
      clear RI TA4 TB4 BW
      have HB := Lib.hid hB
      have HTa := Lib.hid hTa
      have HTb := Lib.hid hTb
      by_cases hlt : k < O.length
      · have q1 : decide ((k : Int) < (O.length : Int)) = true := decide_eq_true (by omega)
        obtain ⟨x1, hx1⟩ : ∃ x1, O[k]? = some x1 := ⟨O[k], List.getElem?_eq_getElem hlt⟩
        obtain ⟨m, hm⟩ : ∃ m : Nat, (O.length : Int) - 1 - (k : Int) = (m : Int) := ⟨O.length - 1 - k, by omega⟩
        have hml : m < O.length := by omega
        obtain ⟨x2, hx2⟩ : ∃ x2, O[m]? = some x2 := ⟨O[m], List.getElem?_eq_getElem hml⟩
        have hx2r : O.reverse[k]? = some x2 := by
          rw [List.getElem?_reverse hlt, ← hx2]
          congr 1
          omega
        obtain ⟨g, o, rfl, c0, c1, c2, c3⟩ := hR k x1 hx1
        obtain ⟨g2, o2, e2, d0, d1, d2, d3⟩ := hR m x2 hx2
        obtain ⟨rfl, rfl⟩ : g = g2 ∧ o = o2 := by
          cases e2
          exact ⟨rfl, rfl⟩
        obtain ⟨ha1, ha2, ha3⟩ := hLa.step hTa.srt HA.out h60 hx1
        obtain ⟨hb1, hb2, hb3⟩ := hLb.step hTb.srt HA.out.rev (by simpa using h60) hx2r
        have AA := Lib.hid (add_any La x1 (HA.out.right x1 (List.mem_of_getElem? hx1)).i pa qa wr hTa)
        have AB := Lib.hid (fun W hW => add_any Lb x2 (HA.out.right x2 (List.mem_of_getElem? hx2)).i pb qb W (hTb.kept (row := some qa) hW (by simpa using fun e => NE.out.1 e.symm) (by simpa using NE.out.2.1)))
        rw [ha1, ha2] at AA
        rw [hb1, hb2] at AB
        unfold Rt.val at AA AB
        have La3 := Lib.hid ha3
        have Lb3 := Lib.hid hb3
        have HR := Lib.hid hR
        clear hLa hLb hB hTa hTb hx2r hx1 hx2 e2 ha1 ha2 ha3 hb1 hb2 hb3 hR
        go_wp2_with (first
          | (go_at_call 20; (with_reducible refine AA.out.mono ?_); rintro e w5 ⟨rfl, hT, hG⟩; (have T5 := Lib.hid hT); (have G5 := Lib.hid hG); (clear hT hG AA); (replace d0 := HTa.out.cell_grown G5.out d0); (replace d1 := HTa.out.cell_grown G5.out d1); (replace d2 := HTa.out.cell_grown G5.out d2); (replace d3 := HTa.out.cell_grown G5.out d3); clear c0 c1 c2 c3)
          | (go_at_call 20; (with_reducible refine (AB.out _ G5.out).mono ?_); rintro e w6 ⟨rfl, hT, hG⟩; (have T6 := Lib.hid hT); (have G6 := Lib.hid hG); clear hT hG AB))
        have TB5 := HTb.out.kept G5.out (by simpa using fun e => NE.out.1 e.symm) (by simpa using NE.out.2.1)
        exact ⟨⟨k + 1, by simp, by omega, below_grown (below_grown HB.out HB.out.size G5.out QA.out.1) (Nat.le_trans HB.out.size G5.out.size) G6.out QA.out.2, TB5.rts_grown G6.out (HTa.out.rts_grown G5.out HR.out), ⟨_, T5.out.kept G6.out (by simpa using NE.out.1) (by simpa using NE.out.2.2), La3.out⟩, ⟨_, T6.out, Lb3.out⟩⟩, by simp [intOf]; omega⟩
      · have q1 : decide ((k : Int) < (O.length : Int)) = false := decide_eq_false (by omega)
        obtain rfl : k = O.length := by omega
        obtain rfl : La = Lb := hLa.same hLb hTa.srt hTb.srt
        have q3 : ((La.length : Int) != (O.length : Int)) = false := by rw [hLa.len]; simp
        have LA := Lib.hid (fun W h => list_any La pa qa W (HTa.out.below h))
        have LB := Lib.hid (fun W h => list_any La pb qb W (HTb.out.below h))
        have FA := Lib.hid (fun W h => find_any La x Hx.out pa qa W (HTa.out.below h))
        have FB := Lib.hid (fun W h => find_any La x Hx.out pb qb W (HTb.out.below h))
        have hfew := hTa.few
        have hsrt := Lib.hid hTa.srt
        clear hLa hLb hB hTa hTb hR hlt hk
        obtain ⟨r, hr⟩ : ∃ r : Rt, (fnd La x 33).getD Rt.zero = r := ⟨_, rfl⟩
        obtain ⟨ok, hok⟩ : ∃ ok : Bool, (fnd La x 33).isSome = ok := ⟨_, rfl⟩
        rw [hr, hok] at FA FB
        unfold Rt.val at FA FB
        clear hr hok
        go_upto_region 27 with (first
          | (go_at_call 17; (with_reducible refine (LA.out _ (Below.refl _ _)).mono ?_); rintro e w5 ⟨A1, c1, rfl, hl1, hl2, hl3, _, hB⟩; (have E5 := Lib.hid hB); (have RI1 := Lib.hid hl3); clear hB hl3)
          | (go_at_call 17; (with_reducible refine (LB.out _ E5.out).mono ?_); rintro e w6 ⟨A2, c2, rfl, hm1, hm2, hm3, _, hB⟩; (have E6 := Lib.hid (below_to E5.out hB E5.out.size)); (have RI2 := Lib.hid hm3); (have RI1' := Lib.hid (RI1.out.below hB)); clear hB hm3))
        clear LA LB E5 RI1
        go_upto_region 28 with (go_at_call 15; (with_reducible refine (FA.out _ E6.out).mono ?_); rintro e w7 ⟨rfl, hB⟩; (have E7 := Lib.hid (below_to E6.out hB E6.out.size)); (have RI1 := Lib.hid (RI1'.out.below hB)); (have RI3 := Lib.hid (RI2.out.below hB)); clear hB FA RI1' RI2)
        have D8 := Lib.hid ((Below.refl _ w7).alloc (Nat.le_refl _) (Obj.cells #[Value.int IntKind.u32 r.d, Value.int IntKind.i64 r.b, Value.int IntKind.u32 r.v, Value.int IntKind.i64 r.o] 33))
        have R8 := Lib.hid (RtAt.of_heap (r := r) (heap_alloc_new w7 (Obj.cells #[Value.int IntKind.u32 r.d, Value.int IntKind.i64 r.b, Value.int IntKind.u32 r.v, Value.int IntKind.i64 r.o] 33)))
        have E8 := Lib.hid (below_to E7.out D8.out E7.out.size)
        have RI1' := Lib.hid (RI1.out.below D8.out)
        have RI3' := Lib.hid (RI3.out.below D8.out)
        generalize w7.alloc (Obj.cells #[Value.int IntKind.u32 r.d, Value.int IntKind.i64 r.b, Value.int IntKind.u32 r.v, Value.int IntKind.i64 r.o] 33) = w8 at R8 E8 RI1' RI3' ⊢
        generalize w7.heap.size = g8 at R8 ⊢
        clear D8 E7 RI1 RI3 E6
        go_upto_region 29 with (go_at_call 15; (with_reducible refine (FB.out _ E8.out).mono ?_); rintro e w9 ⟨rfl, hB⟩; (have E9 := Lib.hid (below_to E8.out hB E8.out.size)); (have RI1 := Lib.hid (RI1'.out.below hB)); (have RI3 := Lib.hid (RI3'.out.below hB)); (have R9 := Lib.hid (R8.out.below hB)); clear hB FB RI1' RI3' R8)
        have D10 := Lib.hid ((Below.refl _ w9).alloc (Nat.le_refl _) (Obj.cells #[Value.int IntKind.u32 r.d, Value.int IntKind.i64 r.b, Value.int IntKind.u32 r.v, Value.int IntKind.i64 r.o] 33))
        have S10 := Lib.hid (RtAt.of_heap (r := r) (heap_alloc_new w9 (Obj.cells #[Value.int IntKind.u32 r.d, Value.int IntKind.i64 r.b, Value.int IntKind.u32 r.v, Value.int IntKind.i64 r.o] 33)))
        have E10 := Lib.hid (below_to E9.out D10.out E9.out.size)
        have I1 := Lib.hid (RI1.out.below D10.out)
        have I2 := Lib.hid (RI3.out.below D10.out)
        have R10 := Lib.hid (R9.out.below D10.out)
        generalize w9.alloc (Obj.cells #[Value.int IntKind.u32 r.d, Value.int IntKind.i64 r.b, Value.int IntKind.u32 r.v, Value.int IntKind.i64 r.o] 33) = w10 at R10 S10 E10 I1 I2 ⊢
        generalize w9.heap.size = g10 at S10 ⊢
        clear D10 E9 RI1 RI3 E8 R9
        have BB := Lib.hid (below_to HB.out E10.out HB.out.size)
        clear E10 HB HTa HTb
        obtain ⟨r0, r1, r2, r3⟩ := R10.out
        obtain ⟨t0, t1, t2, t3⟩ := S10.out
        have e1 := fun W => rt_neq r r W
        rw [show eqB r r = true from eqB_iff.2 rfl, Bool.not_true] at e1
        have eg := rt_eqGuard
        have q4 : (ok != ok) = false := by cases ok <;> rfl
        go_wp2_with fail
        clear r0 r1 r2 r3 t0 t1 t2 t3 e1 R10 S10 q3 q4 q1
        go_loopw [20] (fun s20 wr => ∃ k n : Nat, s20 = .int .i64 (k : Int) ∧ k ≤ La.length ∧ wr = w10.drewN n) (fun s20 _ => La.length - (intOf s20).toNat)
        case atStart => exact ⟨0, 0, rfl, Nat.zero_le _, rfl⟩
        case round =>
          obtain ⟨k, n, rfl, hk, rfl⟩ := hrel
          by_cases hlt : k < La.length
          · have q1 : decide ((k : Int) < (La.length : Int)) = true := decide_eq_true (by omega)
            obtain ⟨s, hs⟩ : ∃ s, La[k]? = some s := ⟨La[k], List.getElem?_eq_getElem hlt⟩
            obtain ⟨w11, hw11⟩ : ∃ w11, w10.drewN n = w11 := ⟨_, rfl⟩
            have J1 := Lib.hid (show RtsIn w11 A1 La by rw [← hw11]; exact I1.out)
            have J2 := Lib.hid (show RtsIn w11 A2 La by rw [← hw11]; exact I2.out)
            rw [hw11]
            have W11 := Lib.hid hw11
            clear hw11 I1 I2
            obtain ⟨g2, o2, rfl, c0, c1, c2, c3⟩ := J1.out k s hs
            obtain ⟨g3, o3, rfl, d0, d1, d2, d3⟩ := J2.out k s hs
            have e1 := fun W => rt_neq s s W
            rw [show eqB s s = true from eqB_iff.2 rfl, Bool.not_true] at e1
            by_cases h0 : k = 0
            · have q2 : decide (0 < k) = false := decide_eq_false (by omega)
              clear h0 hs
              go_upto_region 34 with fail
              go_quiet (fail)
              go_wp2_with fail
              exact ⟨⟨k + 1, n + nq, by simp, by omega, by rw [← W11.out]; exact World.drewN_drewN _ _ _⟩, by simp [intOf]; omega⟩
            · have q2 : decide (0 < k) = true := decide_eq_true (by omega)
              obtain ⟨j, hj⟩ : ∃ j : Nat, (k : Int) - 1 = (j : Int) := ⟨k - 1, by omega⟩
              have hjl : j < La.length := by omega
              obtain ⟨t, ht⟩ : ∃ t, La[j]? = some t := ⟨La[j], List.getElem?_eq_getElem hjl⟩
              obtain ⟨g4, o4, e4, b0, b1, b2, b3⟩ := J1.out j t ht
              obtain ⟨rfl, rfl⟩ : g2 = g4 ∧ o2 = o4 := by
                cases e4
                exact ⟨rfl, rfl⟩
              have hLo : Lo t s := by
                have := List.pairwise_iff_getElem.1 hsrt.out j k hjl hlt (by omega)
                rwa [(List.getElem?_eq_some_iff.1 ht).2, (List.getElem?_eq_some_iff.1 hs).2] at this
              have q5 : decide (s.d < t.d) = false := decide_eq_false (by unfold Lo at hLo; omega)
              by_cases hd : t.d = s.d
              · have q6 : (t.d == s.d) = true := beq_iff_eq.2 hd
                have q7 : decide (s.b ≤ t.b) = false := decide_eq_false (by unfold Lo at hLo; omega)
                clear h0 hs ht e4 hd hLo
                go_upto_region 34 with fail
                go_quiet (fail)
                go_wp2_with fail
                exact ⟨⟨k + 1, n + nq, by simp, by omega, by rw [← W11.out]; exact World.drewN_drewN _ _ _⟩, by simp [intOf]; omega⟩
              · have q6 : (t.d == s.d) = false := beq_eq_false_iff_ne.2 hd
                clear h0 hs ht e4 hd hLo
                go_upto_region 34 with fail
                go_quiet (fail)
                go_wp2_with fail
                exact ⟨⟨k + 1, n + nq, by simp, by omega, by rw [← W11.out]; exact World.drewN_drewN _ _ _⟩, by simp [intOf]; omega⟩
          · have q1 : decide ((k : Int) < (La.length : Int)) = false := decide_eq_false (by omega)
            go_wp2_with fail
            go_ret
            exact ⟨rfl, below_dN BB.out _⟩
end Go.Proofs.Ytimpellpfnmicaa
