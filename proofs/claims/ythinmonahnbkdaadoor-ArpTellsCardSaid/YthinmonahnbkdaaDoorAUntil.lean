/-
  What is proved: arp's untilWrong over the six steps of Parse, by contract.
  Conditions: the bytes are fewer than 2^40.
-/
import Derived.Test.YthinmonahnbkdaaDoorASteps
namespace Go.Proofs.YthinmonahnbkdaaDoor
open Go.RowKit

section
variable {w W : World} {n : Nat} {rs hd : List UInt8} {pk : Pkt}
theorem Rg.fn0 (h : Rg w n rs hd pk W) : W.cell? ⟨n + 4, 0, none⟩ = some (.func (.func 14) #[.pointer (some ⟨n + 3, 0, none⟩)] #[]) := h.fn 0
theorem Rg.fn1 (h : Rg w n rs hd pk W) : W.cell? ⟨n + 4, 1, none⟩ = some (.func (.func 15) #[.pointer (some ⟨n + 3, 0, none⟩)] #[]) := h.fn 1
theorem Rg.fn2 (h : Rg w n rs hd pk W) : W.cell? ⟨n + 4, 2, none⟩ = some (.func (.func 16) #[.pointer (some ⟨n + 3, 0, none⟩)] #[]) := h.fn 2
theorem Rg.fn3 (h : Rg w n rs hd pk W) : W.cell? ⟨n + 4, 3, none⟩ = some (.func (.func 17) #[.pointer (some ⟨n + 3, 0, none⟩)] #[]) := h.fn 3
theorem Rg.fn4 (h : Rg w n rs hd pk W) : W.cell? ⟨n + 4, 4, none⟩ = some (.func (.func 18) #[.pointer (some ⟨n + 3, 0, none⟩)] #[]) := h.fn 4
theorem Rg.fn5 (h : Rg w n rs hd pk W) : W.cell? ⟨n + 4, 5, none⟩ = some (.func (.func 19) #[.pointer (some ⟨n + 3, 0, none⟩)] #[]) := h.fn 5

set_option maxRecDepth 100000 in
set_option maxHeartbeats 4000000 in
theorem until_short (h : Rg w n rs [] noPkt W) (hs : rs.length < 28) :
    Calls Tryd.prog 13 #[.slice (some ⟨n + 4, 0, none⟩) 6 6] W fun e w' => ∃ b, e = .returned (.iface 76 (.pointer (some ⟨b, 0, none⟩))) ∧ w'.heap[b]? = some (wrongObj octetsWord 2) ∧ ∃ rs2 hd2 pk2, Rg w n rs2 hd2 pk2 w' := by
  have c0 := h.fn0
  by_cases h6 : 6 ≤ rs.length
  · as_aux_lemma =>
      have HT := Lib.hid (readHead_ok h h6)
      have HL : Hid ((rs.drop 6).length = rs.length - 6) := List.length_drop ..
      clear h
      go_enter Tryd.func13, Tryd.ntmps13
      go_wp2_with fail
      refine wp_loop_rounds 5 ?_
      rw [rounds_succ]
      go_wp2_with fail
      refine HT.out.mono ?_
      rintro e w1 ⟨rfl, h1⟩
      generalize rs.drop 6 = ls at *
      generalize rs.take 6 = hd at *
      have c1 := h1.fn1
      clear c0 HT
      by_cases h2 : 2 ≤ ls.length
      · obtain ⟨a, b, r, rfl⟩ : ∃ a b r, ls = a :: b :: r := by
          match ls, h2 with
          | a :: b :: r, _ => exact ⟨a, b, r, rfl⟩
        have HT := Lib.hid (readOp_ok h1)
        have HK : Hid (r.length < 20) := by
          show _ < _
          have := HL.out
          simp only [List.length_cons] at this
          omega
        clear h1 h2 HL hs h6
        go_wp2_with fail
        rw [rounds_succ]
        go_wp2_with fail
        refine HT.out.mono ?_
        rintro e w2 ⟨rfl, h3⟩
        generalize ({ noPkt with op := a.toNat * 256 + b.toNat } : Pkt) = pk at *
        have c2 := h3.fn2
        clear c1 HT
        by_cases h4 : 10 ≤ r.length
        · obtain ⟨m, l2, rfl⟩ := six_of r (by omega)
          obtain ⟨x0, x1, x2, x3, l3, rfl⟩ : ∃ x0 x1 x2 x3 l3, l2 = x0 :: x1 :: x2 :: x3 :: l3 := by
            have h5 : 4 ≤ l2.length := by simp [M6.bs] at h4; omega
            match l2, h5 with
            | x0 :: x1 :: x2 :: x3 :: l3, _ => exact ⟨x0, x1, x2, x3, l3, rfl⟩
          have HT := Lib.hid (readSender_ok h3)
          have HJ : Hid (l3.length < 10) := by
            show _ < _
            have := HK.out
            simp [M6.bs] at this
            omega
          clear h3 h4 HK
          go_wp2_with fail
          rw [rounds_succ]
          go_wp2_with fail
          refine HT.out.mono ?_
          rintro e w3 ⟨rfl, h5⟩
          have c3 := h5.fn3
          have HT2 := Lib.hid (readTarget_short h5 HJ.out)
          clear c2 HT h5 HJ
          go_wp2_with fail
          rw [rounds_succ]
          go_wp2_with fail
          refine HT2.out.mono ?_
          rintro e w4 ⟨b4, rfl, ho, h6⟩
          have H6 := Lib.hid (And.intro ho h6)
          clear ho h6 HT2 c3
          go_wp2_with fail
          go_ret
          exact ⟨b4, rfl, H6.out.1, H6.out.2⟩
        · have HT := Lib.hid (readSender_short h3 (by omega))
          clear h3 h4 HK
          go_wp2_with fail
          rw [rounds_succ]
          go_wp2_with fail
          refine HT.out.mono ?_
          rintro e w4 ⟨b4, rfl, ho, h6⟩
          have H6 := Lib.hid (And.intro ho h6)
          clear ho h6 HT c2
          go_wp2_with fail
          go_ret
          exact ⟨b4, rfl, H6.out.1, H6.out.2⟩
      · have HT := Lib.hid (readOp_short h1 (by omega))
        clear h1 h2 HL hs h6
        go_wp2_with fail
        rw [rounds_succ]
        go_wp2_with fail
        refine HT.out.mono ?_
        rintro e w4 ⟨b4, rfl, ho, h6⟩
        have H6 := Lib.hid (And.intro ho h6)
        clear ho h6 HT c1
        go_wp2_with fail
        go_ret
        exact ⟨b4, rfl, H6.out.1, H6.out.2⟩
  · as_aux_lemma =>
      have HT := Lib.hid (readHead_short h (by omega))
      clear h hs h6
      go_enter Tryd.func13, Tryd.ntmps13
      go_wp2_with fail
      refine wp_loop_rounds 1 ?_
      rw [rounds_succ]
      go_wp2_with fail
      refine HT.out.mono ?_
      rintro e w4 ⟨b4, rfl, ho, h6⟩
      have H6 := Lib.hid (And.intro ho h6)
      clear ho h6 HT c0
      go_wp2_with fail
      go_ret
      exact ⟨b4, rfl, H6.out.1, H6.out.2⟩
end

/-- What untilWrong answers of 28 bytes and more. -/
def UntilTold (hd : List UInt8) (op : Nat) (e : Ending) : Prop :=
  (hd = arpHead ∧ (op = 1 ∨ op = 2) ∧ e = .returned .nilIface) ∨ (hd = arpHead ∧ (op ≠ 1 ∧ op ≠ 2) ∧ e = .returned (.iface 44 (.int .i64 3))) ∨ (hd ≠ arpHead ∧ e = .returned (.iface 44 (.int .i64 12)))
def n32 (a b c d : UInt8) : Nat := ((a.toNat * 256 + b.toNat) * 256 + c.toNat) * 256 + d.toNat

set_option maxRecDepth 100000 in
set_option maxHeartbeats 4000000 in
theorem until_long {w W : World} {n : Nat} {hd r : List UInt8} {a b x0 x1 x2 x3 y0 y1 y2 y3 : UInt8} {m1 m2 : M6} (hl : hd.length = 6)
    (h : Rg w n (hd ++ (a :: b :: (m1.bs ++ (x0 :: x1 :: x2 :: x3 :: (m2.bs ++ (y0 :: y1 :: y2 :: y3 :: r)))))) [] noPkt W) :
    Calls Tryd.prog 13 #[.slice (some ⟨n + 4, 0, none⟩) 6 6] W fun e w' => UntilTold hd (a.toNat * 256 + b.toNat) e ∧ Rg w n r hd ⟨a.toNat * 256 + b.toNat, m1, n32 x0 x1 x2 x3, m2, n32 y0 y1 y2 y3⟩ w' := by
  have c0 := h.fn0
  have HT := readHead_ok h (by simp; omega)
  rw [List.take_left' hl, List.drop_left' hl] at HT
  have HT := Lib.hid HT
  clear h hl
  go_enter Tryd.func13, Tryd.ntmps13
  go_wp2_with fail
  refine wp_loop_rounds 7 ?_
  rw [rounds_succ]
  go_wp2_with fail
  refine HT.out.mono ?_
  rintro e w1 ⟨rfl, h1⟩
  have c1 := h1.fn1
  have HT1 := Lib.hid (readOp_ok h1)
  clear c0 HT h1
  go_wp2_with fail
  rw [rounds_succ]
  go_wp2_with fail
  refine HT1.out.mono ?_
  rintro e w2 ⟨rfl, h2⟩
  have c2 := h2.fn2
  have HT2 := Lib.hid (readSender_ok h2)
  clear c1 HT1 h2
  go_wp2_with fail
  rw [rounds_succ]
  go_wp2_with fail
  refine HT2.out.mono ?_
  rintro e w3 ⟨rfl, h3⟩
  have c3 := h3.fn3
  have HT3 := Lib.hid (readTarget_ok h3)
  clear c2 HT2 h3
  go_wp2_with fail
  rw [rounds_succ]
  go_wp2_with fail
  refine HT3.out.mono ?_
  rintro e w4 ⟨rfl, h4⟩
  have h5 : Rg w n r hd ⟨a.toNat * 256 + b.toNat, m1, n32 x0 x1 x2 x3, m2, n32 y0 y1 y2 y3⟩ w4 := h4
  obtain ⟨z1, e1⟩ : ∃ z, z = n32 x0 x1 x2 x3 := ⟨_, rfl⟩
  obtain ⟨z2, e2⟩ : ∃ z, z = n32 y0 y1 y2 y3 := ⟨_, rfl⟩
  obtain ⟨op, e3⟩ : ∃ z, z = a.toNat * 256 + b.toNat := ⟨_, rfl⟩
  rw [← e1, ← e2, ← e3] at h5
  have HZ := Lib.hid (And.intro e1 (And.intro e2 e3))
  clear e1 e2 e3
  have c4 := h5.fn4
  have c5 := h5.fn5
  have H5 := Lib.hid h5
  clear c3 HT3 h4 h5
  by_cases he : hd = arpHead
  · have HC := Lib.hid (checkHead_ok H5.out he)
    have HE := Lib.hid he
    clear he
    go_wp2_with fail
    rw [rounds_succ]
    go_wp2_with fail
    refine HC.out.mono ?_
    rintro e w5 ⟨rfl, rfl⟩
    by_cases ho : op = 1 ∨ op = 2
    · have HC2 := Lib.hid (checkOp_ok H5.out ho)
      have HO := Lib.hid ho
      clear ho HC
      go_wp2_with fail
      rw [rounds_succ]
      go_wp2_with fail
      refine HC2.out.mono ?_
      rintro e w5 ⟨rfl, rfl⟩
      clear HC2
      go_wp2_with fail
      rw [rounds_succ]
      go_wp2_with fail
      go_ret
      obtain ⟨rfl, rfl, rfl⟩ := HZ.out
      exact ⟨.inl ⟨HE.out, HO.out, rfl⟩, H5.out⟩
    · have ho' : op ≠ 1 ∧ op ≠ 2 := by omega
      have HC2 := Lib.hid (checkOp_bad H5.out ho'.1 ho'.2)
      have HO := Lib.hid ho'
      clear ho ho' HC
      go_wp2_with fail
      rw [rounds_succ]
      go_wp2_with fail
      refine HC2.out.mono ?_
      rintro e w5 ⟨rfl, rfl⟩
      clear HC2
      go_wp2_with fail
      go_ret
      obtain ⟨rfl, rfl, rfl⟩ := HZ.out
      exact ⟨.inr (.inl ⟨HE.out, HO.out, rfl⟩), H5.out⟩
  · have HC := Lib.hid (checkHead_bad H5.out he)
    have HE := Lib.hid he
    clear he
    go_wp2_with fail
    rw [rounds_succ]
    go_wp2_with fail
    refine HC.out.mono ?_
    rintro e w5 ⟨rfl, rfl⟩
    clear HC
    go_wp2_with fail
    go_ret
    obtain ⟨rfl, rfl, rfl⟩ := HZ.out
    exact ⟨.inr (.inr ⟨HE.out, rfl⟩), H5.out⟩
end Go.Proofs.YthinmonahnbkdaaDoor
