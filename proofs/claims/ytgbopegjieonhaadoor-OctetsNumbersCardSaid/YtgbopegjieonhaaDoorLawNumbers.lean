/-
  What is proved: the law OctetsNumbers answers true for any four bytes, and leaves all older memory as it was.
  Conditions: errors.errorType holds the handle of the type error.
-/
import Derived.Test.YtgbopegjieonhaaDoorShown
import Derived.Deep.RegionHeld3
namespace Go.Proofs.YtgbopegjieonhaaDoor
open Go.RowKit

theorem ofNat_toNat (a : UInt8) (k : Nat) (h : k % 256 = a.toNat) : UInt8.ofNat k = a := by
  apply UInt8.toNat_inj.1
  rw [ofNat_lt, h]
theorem be2_num (a b : UInt8) : be2 (a.toNat * 256 + b.toNat) = [a, b] := by
  have ha := a.toNat_lt
  have hb := b.toNat_lt
  simp only [be2, List.cons.injEq, and_true]
  exact ⟨ofNat_toNat _ _ (by omega), ofNat_toNat _ _ (by omega)⟩
theorem be4_num (a b c d : UInt8) : be4 (((a.toNat * 256 + b.toNat) * 256 + c.toNat) * 256 + d.toNat) = [a, b, c, d] := by
  have ha := a.toNat_lt
  have hb := b.toNat_lt
  have hc := c.toNat_lt
  have hd := d.toNat_lt
  simp only [be4, List.cons.injEq, and_true]
  exact ⟨ofNat_toNat _ _ (by omega), ofNat_toNat _ _ (by omega), ofNat_toNat _ _ (by omega), ofNat_toNat _ _ (by omega)⟩

set_option maxRecDepth 100000 in
set_option maxHeartbeats 4000000 in
theorem numbers_any (a b c d : UInt8) (w : World) (hg : Hdl w) : Calls Tryd.prog 7 #[.int .u8 (a.toNat : Int), .int .u8 (b.toNat : Int), .int .u8 (c.toNat : Int), .int .u8 (d.toNat : Int)] w fun e w' => e = .returned (.bool true) ∧ Below w.heap.size w w' := by
  have ha := a.toNat_lt
  have hb := b.toNat_lt
  have hc := c.toNat_lt
  have hd := d.toNat_lt
  have HG := Lib.hid hg
  clear hg
  go_enter Tryd.func7, Tryd.ntmps7
  go_wp2_with fail
  refine (shown_any w HG.out).mono ?_
  rintro e w0 ⟨rfl, hb0⟩
  have hrd : Rd (w0.alloc (.cells #[.int .u8 (a.toNat : Int), .int .u8 (b.toNat : Int), .int .u8 (c.toNat : Int), .int .u8 (d.toNat : Int)] 5)) (.slice (some ⟨w0.heap.size, 0, none⟩) 4 4) [a, b, c, d] := Rd.of_obj (bytesObj_new w0 [a, b, c, d]) (Nat.le_refl _)
  have hbA : Below w.heap.size w (w0.alloc (.cells #[.int .u8 (a.toNat : Int), .int .u8 (b.toNat : Int), .int .u8 (c.toNat : Int), .int .u8 (d.toNat : Int)] 5)) := hb0.alloc hb0.size _
  have RD := Lib.hid hrd
  have BA := Lib.hid hbA
  have hs0 := hb0.size
  clear hb0 hrd hbA
  go_wp2_with fail
  refine (Read_facts _ [a, b, c, d] _ RD.out (by simp)).mono ?_
  rintro e w1 ⟨r, rfl, hr, rr1, b1⟩
  have RD1 := Lib.hid (RD.out.below b1)
  have B1 := Lib.hid (below_to BA.out b1 BA.out.size)
  have R1 := Lib.hid rr1
  have hr1 : w.heap.size ≤ r := by have := BA.out.size; omega
  have hr2 : r < w1.heap.size := rr1.at_
  clear rr1 b1 RD BA hr
  go_wp2_with fail
  refine (Read_facts _ [a, b, c, d] _ RD1.out (by simp)).mono ?_
  rintro e w2 ⟨s, rfl, hs, rs2, b2⟩
  have RD2 := Lib.hid (RD1.out.below b2)
  have B2 := Lib.hid (below_to B1.out b2 B1.out.size)
  have R2 := Lib.hid (R1.out.below b2)
  have S2 := Lib.hid rs2
  have hs2 : s < w2.heap.size := rs2.at_
  clear rs2 b2 RD1 B1 R1
  go_wp2_with fail
  refine (Read_facts _ [a, b, c, d] _ RD2.out (by simp)).mono ?_
  rintro e w3 ⟨t, rfl, ht, rt3, b3⟩
  have B3 := Lib.hid (below_to B2.out b3 B2.out.size)
  have R3 := Lib.hid (R2.out.below b3)
  have S3 := Lib.hid (S2.out.below b3)
  have T3 := Lib.hid rt3
  clear rt3 b3 RD2 B2 R2 S2
  go_wp2_with fail
  refine (U32_ok _ a b c d [] _ R3.out (by simp)).mono ?_
  rintro e w4 ⟨he, hx4, hf4, hz4⟩
  obtain ⟨N, hN⟩ : ∃ N : Nat, N = ((a.toNat * 256 + b.toNat) * 256 + c.toNat) * 256 + d.toNat := ⟨_, rfl⟩
  have he' : e = .returned (.tuple #[.int .u32 (N : Int), .nilIface]) := by rw [he, hN]; simp
  subst he'
  have hNl : N < 4294967296 := by omega
  have B4 := Lib.hid (below_to B3.out (hf4.below (B := w.heap.size) B3.out.size (fun x hx => by subst hx; exact hr1)) (Nat.le_refl _))
  have S4 := Lib.hid (S3.out.other R3.out hf4 (by intro e; injection e; omega))
  have T4 := Lib.hid (T3.out.other R3.out hf4 (by intro e; injection e; omega))
  have NN := Lib.hid hN
  clear he hf4 hx4 hz4 hN B3 R3 S3 T3
  go_wp2_with fail
  refine (U16_ok _ a b [c, d] _ S4.out (by simp)).mono ?_
  rintro e w5 ⟨he, rs5, hf5, hz5⟩
  obtain ⟨X, hX⟩ : ∃ X : Nat, X = a.toNat * 256 + b.toNat := ⟨_, rfl⟩
  have he' : e = .returned (.tuple #[.int .u16 (X : Int), .nilIface]) := by rw [he, hX]; simp
  subst he'
  have hXl : X < 65536 := by omega
  have B5 := Lib.hid (below_to B4.out (hf5.below (B := w.heap.size) B4.out.size (fun x hx => by subst hx; show _ ≤ s; omega)) (Nat.le_refl _))
  have S5 := Lib.hid rs5
  have T5 := Lib.hid (T4.out.other S4.out hf5 (by intro e; injection e; omega))
  have XX := Lib.hid hX
  clear he hf5 hz5 hX rs5 B4 S4 T4
  go_wp2_with fail
  refine (U16_ok _ c d [] _ S5.out (by simp)).mono ?_
  rintro e w6 ⟨he, rs6, hf6, hz6⟩
  obtain ⟨Y, hY⟩ : ∃ Y : Nat, Y = c.toNat * 256 + d.toNat := ⟨_, rfl⟩
  have he' : e = .returned (.tuple #[.int .u16 (Y : Int), .nilIface]) := by rw [he, hY]; simp
  subst he'
  have hYl : Y < 65536 := by omega
  have B6 := Lib.hid (below_to B5.out (hf6.below (B := w.heap.size) B5.out.size (fun x hx => by subst hx; show _ ≤ s; omega)) (Nat.le_refl _))
  have T6 := Lib.hid (T5.out.other S5.out hf6 (by intro e; injection e; omega))
  have YY := Lib.hid hY
  clear he hf6 hz6 hY rs6 B5 S5 T5
  go_wp2_with fail
  refine (U8_ok _ a [b, c, d] _ T6.out (by simp)).mono ?_
  rintro e w7 ⟨rfl, rt7, hf7, hz7⟩
  have B7 := Lib.hid (below_to B6.out (hf7.below (B := w.heap.size) B6.out.size (fun x hx => by subst hx; show _ ≤ t; omega)) (Nat.le_refl _))
  have T7 := Lib.hid rt7
  clear hf7 hz7 rt7 B6 T6
  go_wp2_with fail
  refine (U8_ok _ b [c, d] _ T7.out (by simp)).mono ?_
  rintro e w8 ⟨rfl, rt8, hf8, hz8⟩
  have B8 := Lib.hid (below_to B7.out (hf8.below (B := w.heap.size) B7.out.size (fun x hx => by subst hx; show _ ≤ t; omega)) (Nat.le_refl _))
  have hs8 : w.heap.size ≤ w8.heap.size := B8.out.size
  have W8 : Hid (Wtr (w8.alloc (.cells #[.slice none 0 0] 55)) ⟨w8.heap.size, 0, none⟩ none []) := Wtr.zero (by simp) (by simp)
  have BB := Lib.hid (B8.out.alloc B8.out.size (.cells #[.slice none 0 0] 55))
  clear hf8 hz8 rt8 B7 T7 B8
  go_wp2_with fail
  refine (WU32_any _ none [] N _ hNl W8.out (by simp)).mono ?_
  rintro e w9 ⟨rfl, h9⟩
  have H9 := Lib.hid h9
  clear h9
  go_wp2_with fail
  obtain ⟨row9, g1, g2, g3⟩ := H9.out
  refine (WU16_any _ row9 _ X _ hXl g1 (by simp [be4])).mono ?_
  rintro e w10 ⟨rfl, h10⟩
  have H10 := Lib.hid (Wrote.then g2 g3 h10)
  clear h10 g1 g2 g3 H9
  go_wp2_with fail
  obtain ⟨row10, g1, g2, g3⟩ := H10.out
  refine (WU16_any _ row10 _ Y _ hYl g1 (by simp [be4, be2])).mono ?_
  rintro e w11 ⟨rfl, h11⟩
  have H11 := Lib.hid (Wrote.then g2 g3 h11)
  clear h11 g1 g2 g3 H10
  go_wp2_with fail
  obtain ⟨row11, g1, g2, g3⟩ := H11.out
  refine (WU8_any _ row11 _ a.toNat _ ha g1 (by simp [be4, be2])).mono ?_
  rintro e w12 ⟨rfl, h12⟩
  have H12 := Lib.hid (Wrote.then g2 g3 h12)
  clear h12 g1 g2 g3 H11
  go_wp2_with fail
  obtain ⟨row12, g1, g2, g3⟩ := H12.out
  refine (WU8_any _ row12 _ b.toNat _ hb g1 (by simp [be4, be2])).mono ?_
  rintro e w13 ⟨rfl, h13⟩
  have H13 := Lib.hid (Wrote.then g2 g3 h13)
  clear h13 g1 g2 g3 H12
  go_wp2_with fail
  obtain ⟨row13, g1, g2, g3⟩ := H13.out
  have hT : ([] ++ be4 N ++ be2 X ++ be2 Y ++ [UInt8.ofNat a.toNat] ++ [UInt8.ofNat b.toNat] : List UInt8) = [a, b, c, d, a, b, c, d, a, b] := by
    rw [NN.out, XX.out, YY.out, be4_num, be2_num, be2_num, ofNat_toNat a a.toNat (by omega), ofNat_toNat b b.toNat (by omega)]
    rfl
  rw [hT] at g1
  have b13 := below_to BB.out (g3.below (B := w.heap.size) BB.out.size (fun x hx => by
    rcases hx with hx | hx
    · subst hx; exact hs8
    · cases hx)) (Nat.le_refl _)
  have HD : ∀ W, Below w13.heap.size w13 W → Calls Tryd.prog 25 #[.pointer (some ⟨w8.heap.size, 0, none⟩)] W fun e w' => e = .returned (.slice (some ⟨W.heap.size, 0, none⟩) 10 10) ∧ Rd w' (.slice (some ⟨W.heap.size, 0, none⟩) 10 10) [a, b, c, d, a, b, c, d, a, b] ∧ Below W.heap.size W w' := by
    intro W hW
    refine (WDone_any _ row13 _ W (g1.below hW) (by simp)).mono ?_
    rintro e w' ⟨rfl, hw⟩
    exact ⟨rfl, (done_facts hw).1, (done_facts hw).2⟩
  have HL : ∀ W : World, (convert 22 9 (.slice (some ⟨W.heap.size, 0, none⟩) 10 10)).run Tryd.prog (W.alloc (.cells #[.int .u8 (a.toNat : Int), .int .u8 (b.toNat : Int), .int .u8 (c.toNat : Int), .int .u8 (d.toNat : Int), .int .u8 (a.toNat : Int), .int .u8 (b.toNat : Int), .int .u8 (c.toNat : Int), .int .u8 (d.toNat : Int), .int .u8 (a.toNat : Int), .int .u8 (b.toNat : Int)] 5)) =
      .ok (.string (txt [a, b, c, d, a, b, c, d, a, b])) (W.alloc (.cells #[.int .u8 (a.toNat : Int), .int .u8 (b.toNat : Int), .int .u8 (c.toNat : Int), .int .u8 (d.toNat : Int), .int .u8 (a.toNat : Int), .int .u8 (b.toNat : Int), .int .u8 (c.toNat : Int), .int .u8 (d.toNat : Int), .int .u8 (a.toNat : Int), .int .u8 (b.toNat : Int)] 5)) :=
    fun W => convert_rd (Rd.of_obj (bytesObj_new W [a, b, c, d, a, b, c, d, a, b]) (Nat.le_refl _))
  have DD := Lib.hid HD
  have RL := Lib.hid (show Rd ((w13.alloc (.cells #[.int .u8 (a.toNat : Int), .int .u8 (b.toNat : Int), .int .u8 (c.toNat : Int), .int .u8 (d.toNat : Int), .int .u8 (a.toNat : Int), .int .u8 (b.toNat : Int), .int .u8 (c.toNat : Int), .int .u8 (d.toNat : Int), .int .u8 (a.toNat : Int), .int .u8 (b.toNat : Int)] 5)).drew) (.slice (some ⟨w13.heap.size, 0, none⟩) 10 10) [a, b, c, d, a, b, c, d, a, b] from (Rd.of_obj (bytesObj_new w13 [a, b, c, d, a, b, c, d, a, b]) (Nat.le_refl _) : Rd (w13.alloc (bytesObj [a, b, c, d, a, b, c, d, a, b])) _ _).below (Below.refl _ _).drew)
  have HM : (convert 22 9 (.slice (some ⟨w13.heap.size, 0, none⟩) 10 10)).run Tryd.prog ((w13.alloc (.cells #[.int .u8 (a.toNat : Int), .int .u8 (b.toNat : Int), .int .u8 (c.toNat : Int), .int .u8 (d.toNat : Int), .int .u8 (a.toNat : Int), .int .u8 (b.toNat : Int), .int .u8 (c.toNat : Int), .int .u8 (d.toNat : Int), .int .u8 (a.toNat : Int), .int .u8 (b.toNat : Int)] 5)).drew) = .ok (.string (txt [a, b, c, d, a, b, c, d, a, b])) ((w13.alloc (.cells #[.int .u8 (a.toNat : Int), .int .u8 (b.toNat : Int), .int .u8 (c.toNat : Int), .int .u8 (d.toNat : Int), .int .u8 (a.toNat : Int), .int .u8 (b.toNat : Int), .int .u8 (c.toNat : Int), .int .u8 (d.toNat : Int), .int .u8 (a.toNat : Int), .int .u8 (b.toNat : Int)] 5)).drew) := convert_rd RL.out
  have B13 := Lib.hid b13
  clear HD hT g1 g2 g3 b13 H13 BB
  have hE1 : ((N : Int) == (X : Int) * 65536 + (Y : Int)) = true := by rw [beq_iff_eq]; have h1 := NN.out; have h2 := XX.out; have h3 := YY.out; omega
  have hE2 : ((X : Int) == (a.toNat : Int) * 256 + (b.toNat : Int)) = true := by rw [beq_iff_eq]; have h2 := XX.out; omega
  have hE3 : ((Y : Int) == (c.toNat : Int) * 256 + (d.toNat : Int)) = true := by rw [beq_iff_eq]; have h2 := YY.out; omega
  have q1 : IntKind.u32.wrap (X : Int) = X := by rw [IntKind.wrap_u32]; omega
  have q2 : IntKind.u32.wrap (Y : Int) = Y := by rw [IntKind.wrap_u32]; omega
  have q3 : IntKind.u32.wrap ((X : Int) * 65536) = (X : Int) * 65536 := by rw [IntKind.wrap_u32]; omega
  have q4 : IntKind.u32.wrap ((X : Int) * 65536 + (Y : Int)) = (X : Int) * 65536 + (Y : Int) := by rw [IntKind.wrap_u32]; omega
  have q5 : IntKind.u16.wrap (a.toNat : Int) = a.toNat := by rw [IntKind.wrap_u16]; omega
  have q6 : IntKind.u16.wrap (b.toNat : Int) = b.toNat := by rw [IntKind.wrap_u16]; omega
  have q7 : IntKind.u16.wrap (c.toNat : Int) = c.toNat := by rw [IntKind.wrap_u16]; omega
  have q8 : IntKind.u16.wrap (d.toNat : Int) = d.toNat := by rw [IntKind.wrap_u16]; omega
  have qa : IntKind.u16.wrap ((a.toNat : Int) * 256) = (a.toNat : Int) * 256 := by rw [IntKind.wrap_u16]; omega
  have qb : IntKind.u16.wrap ((a.toNat : Int) * 256 + (b.toNat : Int)) = (a.toNat : Int) * 256 + (b.toNat : Int) := by rw [IntKind.wrap_u16]; omega
  have qc : IntKind.u16.wrap ((c.toNat : Int) * 256) = (c.toNat : Int) * 256 := by rw [IntKind.wrap_u16]; omega
  have qd : IntKind.u16.wrap ((c.toNat : Int) * 256 + (d.toNat : Int)) = (c.toNat : Int) * 256 + (d.toNat : Int) := by rw [IntKind.wrap_u16]; omega
  have z13 : w.heap.size ≤ w13.heap.size := B13.out.size
  clear NN XX YY W8 HG ha hb hc hd hNl hXl hYl hr1 hr2 hs hs2 ht hs0 hs8
  simp only [List.append_eq, List.cons_append, List.nil_append]
  go_region_held (fun _ => True) (trivial) (first | (go_at_call 25; refine (DD.out _ ?_).mono ?_; (first | exact (Below.refl _ _).drew | exact (((Below.refl _ _).alloc (Nat.le_refl _) _).drew)); rintro e w14 ⟨rfl, hrd, hbd⟩; (try (have hcl := convert_rd ((RL.out).below hbd))); (have hcw := fun o => convert_rd (hrd.below ((Below.refl _ _).alloc (Nat.le_refl _) o))); (simp only [World.size_drew, World.size_alloc] at hrd hcw); (have hcv := convert_rd hrd); (have HBD := Lib.hid hbd); clear hrd hbd))
  all_goals (go_wp2_with fail; go_ret; refine ⟨rfl, ?_⟩; first | exact ((below_to B13.out.drew HBD.out B13.out.size).alloc (below_to B13.out.drew HBD.out B13.out.size).size _) | exact (below_to (B13.out.alloc B13.out.size _).drew HBD.out (B13.out.alloc B13.out.size _).size))
end Go.Proofs.YtgbopegjieonhaaDoor
