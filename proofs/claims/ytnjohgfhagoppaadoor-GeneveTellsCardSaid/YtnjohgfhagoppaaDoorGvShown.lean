/-
  What is proved: 'shown' of the laws of layer 12.
  Conditions: none of its own.
-/
import Derived.Test.YtnjohgfhagoppaaDoorGvSame
namespace Go.Proofs.YtnjohgfhagoppaaDoor
open Go.RowKit

theorem gbelow_on {n : Nat} {w a b : World} (h : Below n w a) (hn : w.heap.size = n) (k : Below a.heap.size a b) : Below n w b := by subst hn; exact below_to h k h.size
def abObj : Obj := .cells #[.int .u8 97, .int .u8 98, .int .u8 99, .int .u8 100] 5
/-- The row of a text's bytes, with the run-time's mark behind it. -/
def abMark : Obj := .cells #[.int .u8 97, .int .u8 98, .int .u8 99, .int .u8 100] 5 (4, 5)
theorem ab_modify {α : Type} (a : Array α) (x : α) (f : α → α) : (a.push x).modify a.size f = a.push (f x) := by
  apply Array.ext
  · simp
  · intro i h1 h2
    simp only [Array.getElem_modify, Array.getElem_push]
    by_cases h : a.size = i
    · subst h
      simp
    · have hi : i < a.size := by simp at h1; omega
      simp [h, hi]
theorem ab_mark {W : World} {g n c : Nat} (h : W.heap[g]? = some abObj) : (convert 23 23 (.slice (some ⟨g, 0, none⟩) n c)).run Tryd.prog W = .ok (.slice (some ⟨g, 0, none⟩) n c) (W.freeze ⟨g, 4, none⟩ 1) := by
  have hsh : W.shape? g = some (5, 4) := by
    unfold World.shape?
    rw [h]
    rfl
  simp [convert, run_underlying Tryd.underlying23, run_underlying Tryd.underlying5, markStringish, hsh]
theorem ab_freeze (W : World) : (W.alloc abObj).freeze ⟨W.heap.size, 4, none⟩ 1 = W.alloc abMark := by
  unfold World.freeze
  rw [if_neg (by decide)]
  show ({ W.alloc abObj with heap := (W.heap.push abObj).modify W.heap.size _ } : World) = _
  rw [ab_modify]
  rfl
def abBytes : List UInt8 := [97, 98, 99, 100]
theorem ab_rd {W : World} {g : Nat} (h : W.heap[g]? = some abMark) : Rd W (.slice (some ⟨g, 0, none⟩) 4 4) abBytes := by
  unfold abMark at h
  refine ⟨_, 4, rfl, Nat.le_refl _, fun _ => ⟨g, 0, rfl, fun i u hu => ?_⟩⟩
  rw [cell_of_row W g _ _ _ _ h]
  match i, hu with
  | 0, hu | 1, hu | 2, hu | 3, hu => cases hu; rfl
  | i + 4, hu => cases hu
def abOp : Op := ⟨258, 131, abBytes⟩
def gvFr : List UInt8 := List.replicate 14 0
def gvPk : List UInt8 := [2, 64, 101, 88, 0, 0, 5, 0, 1, 2, 131, 1, 97, 98, 99, 100, 0, 0, 0, 0, 0, 0, 0, 0, 0, 0, 0, 0, 0, 0]
theorem gvPk_eq : gPut 5 [abOp] gvFr = gvPk := by decide
theorem ab_opsAt {W : World} {g X : Nat} (hX : W.heap[X]? = some (.cells (opRow 258 131 (.slice (some ⟨g, 0, none⟩) 4 4)) 50 (0, 0))) (h : Rd W (.slice (some ⟨g, 0, none⟩) 4 4) abBytes) : OpsAt W (some ⟨X, 0, none⟩) [abOp] := fun k x hk => by
  match k, hk with
  | 0, hk =>
    obtain rfl : abOp = x := by simpa using hk
    exact ⟨X, 0, some ⟨g, 0, none⟩, 4, rfl, ⟨by rw [cell_of_row W X _ _ _ _ hX]; rfl, by rw [cell_of_row W X _ _ _ _ hX]; rfl, by rw [cell_of_row W X _ _ _ _ hX]; rfl⟩, by decide, h⟩
  | k + 1, hk => simp at hk
theorem ab_fit : ∀ x ∈ [abOp], x.Fit := fun x hx => by
  rw [List.mem_singleton.1 hx]
  exact ⟨by decide, by decide⟩
theorem gvsh1 (X g n : Nat) (W : World) (hX : W.heap[X]? = some (.cells (opRow 258 131 (.slice (some ⟨g, 0, none⟩) 4 4)) 50 (0, 0))) (h : Rd W (.slice (some ⟨g, 0, none⟩) 4 4) abBytes) (hr : Rd W (.slice (some ⟨n, 0, none⟩) 14 14) gvFr) :
    Calls Tryd.prog 16 #[.int .u32 5, .slice (some ⟨X, 0, none⟩) 1 1, .slice (some ⟨n, 0, none⟩) 14 14] W fun e w' =>
    ∃ b, e = .returned (.tuple #[.slice (some ⟨b, 0, none⟩) 30 30, .nilIface]) ∧ w'.heap[b]? = some (bytesObj gvPk) ∧ Below W.heap.size W w' := by
  refine (gencap_ok 5 _ [abOp] 1 _ 14 gvFr W (by decide) (ab_opsAt hX h) ab_fit (by decide) (by decide) hr (by decide) (by decide)).mono ?_
  rw [gvPk_eq]
  rintro e w' ⟨b, he, _, h1, h2⟩
  exact ⟨b, he, h1, h2⟩
theorem gvsh2 (g : Nat) (W : World) (hr : Rd W (.slice (some ⟨g, 0, none⟩) 30 30) gvPk) : Calls Tryd.prog 18 #[.slice (some ⟨g, 0, none⟩) 30 30] W fun e w' =>
    ∃ b X o c B k, e = .returned (.tuple #[.int .u32 5, .slice (some ⟨X, o, none⟩) 1 c, .slice (some ⟨b, 0, none⟩) 14 14, .nilIface]) ∧ w'.cell? ⟨X, o, none⟩ = some (.int .u16 258) ∧ w'.cell? ⟨X, o + 2, none⟩ = some (.slice B 4 k) ∧ Rd w' (.slice B 4 k) abBytes ∧ 1 ≤ c ∧ Below W.heap.size W w' := by
  refine (gdec_any hr (by decide)).mono ?_
  rintro e w' (⟨h, _⟩ | ⟨_, sv, lx, b, rfl, h1, h2, _, _, _, _, h3⟩)
  · exact absurd (show gCode gvPk = 0 by decide) h
  · have e1 : gOps gvPk = [abOp] := rfl
    rw [e1] at h1
    obtain ⟨A, c, rfl, hc, _, ho⟩ := h2.ops
    rw [h1] at ho hc ⊢
    obtain ⟨X, o, B, k, rfl, ha, _, hr2⟩ := ho 0 abOp rfl
    obtain ⟨c0, _, c2⟩ := ha
    have o0 : o + 0 * 3 = o := by omega
    rw [o0] at c0 c2
    exact ⟨b, X, o, c, B, k, rfl, c0, c2, hr2, hc, h3⟩
theorem gvsh3 (g : Nat) (W : World) (hr : Rd W (.slice (some ⟨g, 0, none⟩) 7 14) (gvFr.take 7)) : Calls Tryd.prog 18 #[.slice (some ⟨g, 0, none⟩) 7 14] W (GXBad 2 [gvWord, octetsWord] W) := by
  refine (gdec_any hr (by decide)).mono ?_
  rintro e w' (⟨_, h⟩ | ⟨h, _⟩)
  · exact h
  · exact absurd h (by decide)
set_option maxRecDepth 100000 in
set_option maxHeartbeats 4000000 in
theorem gvShown_any (w : World) : Calls Tryd.prog 13 #[] w fun e w' => e = .returned (.bool true) ∧ Below w.heap.size w w' := by
  have hmk : (Instr.makeSlice 23 (.int .i64 14) (.int .i64 14)).run Tryd.prog w = .ok (.slice (some ⟨w.heap.size, 0, none⟩) 14 14) (w.alloc (bytesObj gvFr)) := make_bytes 14 (by decide) w
  have HB0 : Hid (Below w.heap.size w (w.alloc (bytesObj gvFr))) := (Below.refl _ _).alloc (Nat.le_refl _) _
  have HR0 : Hid (Rd (w.alloc (bytesObj gvFr)) (.slice (some ⟨w.heap.size, 0, none⟩) 14 14) gvFr) := Rd.of_obj (c := 14) (bytesObj_new w gvFr) (by decide)
  have f1 := methodErrorW
  go_enter Tryd.func13, Tryd.ntmps13
  generalize hW : w.alloc (bytesObj gvFr) = W0 at hmk HB0 HR0
  clear hW
  generalize hn : w.heap.size = n at *
  have HN := Lib.hid hn
  clear hn
  go_upto_region 2 with fail
  clear hmk
  have cv : (convert 23 23 (.slice (some ⟨W0.heap.size, 0, none⟩) 4 4)).run Tryd.prog (W0.alloc abObj) = .ok (.slice (some ⟨W0.heap.size, 0, none⟩) 4 4) (W0.alloc abMark) := by
    rw [ab_mark (heap_alloc_new W0 _), ab_freeze]
  unfold abObj at cv
  go_upto_region 3 with fail
  clear cv
  have hB1 : Below W0.heap.size W0 (W0.alloc abMark) := (Below.refl _ _).alloc (Nat.le_refl _) _
  have hA1 : Rd (W0.alloc abMark) (.slice (some ⟨W0.heap.size, 0, none⟩) 4 4) abBytes := ab_rd (heap_alloc_new W0 _)
  have hR1 := HR0.out.below hB1
  have hB1n := gbelow_on HB0.out HN.out hB1
  have hs1 : (W0.alloc abMark).heap.size = W0.heap.size + 1 := by simp
  generalize hW1 : W0.alloc abMark = W1 at *
  generalize W0.heap.size = ga at *
  clear hW1 hB1 HR0 HB0
  have oo : Obj.cells #[.int .u16 258, .int .u8 131, .slice (some ⟨ga, 0, none⟩) 4 4] 50 = .cells (opRow 258 131 (.slice (some ⟨ga, 0, none⟩) 4 4)) 50 (0, 0) := rfl
  have hB2 : Below W1.heap.size W1 (W1.alloc (.cells #[.int .u16 258, .int .u8 131, .slice (some ⟨ga, 0, none⟩) 4 4] 50)) := (Below.refl _ _).alloc (Nat.le_refl _) _
  have hX2 := heap_alloc_new W1 (.cells #[.int .u16 258, .int .u8 131, .slice (some ⟨ga, 0, none⟩) 4 4] 50)
  have hA2 := hA1.below hB2
  have hR2 := hR1.below hB2
  have hB2n := gbelow_on hB1n HN.out hB2
  generalize hW2 : W1.alloc (.cells #[.int .u16 258, .int .u8 131, .slice (some ⟨ga, 0, none⟩) 4 4] 50) = W2 at *
  rw [hs1] at hX2
  clear hW2 hB2 hA1 hR1 hB1n hs1
  have HX2 := Lib.hid hX2
  have p0 : W2.cell? ⟨ga + 1, 0, none⟩ = some (.int .u16 258) := by rw [cell_of_row W2 _ 0 _ _ _ hX2]; rfl
  have p1 : W2.cell? ⟨ga + 1, 1, none⟩ = some (.int .u8 131) := by rw [cell_of_row W2 _ 1 _ _ _ hX2]; rfl
  have p2 : W2.cell? ⟨ga + 1, 2, none⟩ = some (.slice (some ⟨ga, 0, none⟩) 4 4) := by rw [cell_of_row W2 _ 2 _ _ _ hX2]; rfl
  have hB3 : Below W2.heap.size W2 (W2.alloc (.cells #[.int .u16 258, .int .u8 131, .slice (some ⟨ga, 0, none⟩) 4 4] 50)) := (Below.refl _ _).alloc (Nat.le_refl _) _
  have HB3 := Lib.hid (gbelow_on hB2n HN.out hB3)
  have HE := Lib.hid (gvsh1 W2.heap.size ga n _ (heap_alloc_new W2 _) (hA2.below hB3) (hR2.below hB3))
  have HX3 := Lib.hid ((hB3.block _ (Array.getElem?_eq_some_iff.1 hX2).1).trans hX2)
  have HR3 := Lib.hid (hR2.below hB3)
  unfold opRow at HE
  clear hX2 oo hA2 hR2 hB2n hB3
  go_wp2_with fail
  clear p0 p1 p2
  refine HE.out.mono ?_
  rintro e w1 ⟨b1, rfl, ho1, hl1⟩
  have HB4 := Lib.hid (gbelow_on HB3.out HN.out hl1)
  have HR4 := Lib.hid (HR3.out.below hl1)
  have HX4 := Lib.hid ((hl1.block _ (Array.getElem?_eq_some_iff.1 HX3.out).1).trans HX3.out)
  have HO4 := Lib.hid ho1
  clear ho1 hl1 HB3 HR3 HX3 HE HX2
  go_wp2_with fail
  refine (gvsh2 b1 w1 (Rd.of_obj (c := 30) HO4.out (by decide))).mono ?_
  rintro e w2 ⟨b2, X, o, c, B, k, rfl, hc0, hc2, hrb, h1c, hl2⟩
  have HB5 := Lib.hid (gbelow_on HB4.out HN.out hl2)
  have HR5 := Lib.hid (HR4.out.below hl2)
  have HX5 := Lib.hid ((hl2.block _ (Array.getElem?_eq_some_iff.1 HX4.out).1).trans HX4.out)
  have HO5 := Lib.hid ((hl2.block _ (Array.getElem?_eq_some_iff.1 HO4.out).1).trans HO4.out)
  have HC5 := Lib.hid (And.intro hc0 hc2)
  have HD5 := Lib.hid hrb
  clear hc0 hc2 hrb hl2 HB4 HR4 HX4 HO4
  go_wp2_with fail
  refine (gvsh3 n w2 (Rd.front (bs := gvFr) HR5.out (by decide))).mono ?_
  rintro e w3 ⟨b3, rfl, hc3, hl3⟩
  have HB6 := Lib.hid (gbelow_on HB5.out HN.out hl3)
  have ho6 := ((hl3.block _ (Array.getElem?_eq_some_iff.1 HO5.out).1).trans HO5.out)
  have q0 : w3.cell? ⟨b1, 0, none⟩ = some (.int .u8 2) := bytesCell ho6 0 2 rfl
  have q1 : w3.cell? ⟨b1, 1, none⟩ = some (.int .u8 64) := bytesCell ho6 1 64 rfl
  have q2 : w3.cell? ⟨X, o, none⟩ = some (.int .u16 258) := (hl3.cell (World.block_lt_of_cell? w2 _ HC5.out.1)).trans HC5.out.1
  have q3 : w3.cell? ⟨X, o + 2, none⟩ = some (.slice B 4 k) := (hl3.cell (World.block_lt_of_cell? w2 _ HC5.out.2)).trans HC5.out.2
  have v1 : (convert 23 9 (.slice B 4 k)).run Tryd.prog w3 = .ok (.string ⟨#[97, 98, 99, 100]⟩) w3 := convert_rd (HD5.out.below hl3)
  have HX6 := Lib.hid ((hl3.block _ (Array.getElem?_eq_some_iff.1 HX5.out).1).trans HX5.out)
  have HC6 := Lib.hid hc3
  clear hl3 HB5 HR5 HO5 ho6 hc3 HX5 HC5 HD5
  obtain ⟨b, x, hv, h0, h1, h2⟩ := HC6.out
  obtain rfl : b3 = b := by injection hv with _ h; injection h with h; injection h with h; injection h
  have HT := Lib.hid (wrong_text 2 (by decide) [octetsWord] b3 gvWord x w3 (by decide) h0 h1 h2)
  clear h0 h1 h2 hv
  go_wp2_with fail
  refine HT.out.mono ?_
  rintro e w4 ⟨he, m, hw4⟩
  have he' : e = .returned (.string ⟨#[103, 101, 110, 101, 118, 101, 58, 32, 111, 99, 116, 101, 116, 115, 58, 32, 101, 114, 114, 111, 114, 32, 50]⟩) := he
  subst he'
  have hb4 : Below w3.heap.size w3 w4 := by subst hw4; exact ⟨rfl, rfl, rfl, Nat.le_refl _, fun _ _ => rfl⟩
  have HB7 := Lib.hid (gbelow_on HB6.out HN.out hb4)
  have HC7 := Lib.hid (HC6.out.below hb4)
  have hX7 := (hb4.block _ (Array.getElem?_eq_some_iff.1 HX6.out).1).trans HX6.out
  clear hw4 hb4 he HT q0 q1 q2 q3 v1
  have p0 : w4.cell? ⟨ga + 1, 0, none⟩ = some (.int .u16 258) := by rw [cell_of_row w4 _ 0 _ _ _ hX7]; rfl
  have p1 : w4.cell? ⟨ga + 1, 1, none⟩ = some (.int .u8 131) := by rw [cell_of_row w4 _ 1 _ _ _ hX7]; rfl
  have p2 : w4.cell? ⟨ga + 1, 2, none⟩ = some (.slice (some ⟨ga, 0, none⟩) 4 4) := by rw [cell_of_row w4 _ 2 _ _ _ hX7]; rfl
  clear hX7
  have HCr := Lib.hid (gcrit_any abOp (ab_fit _ (List.mem_singleton_self _)) (.slice (some ⟨ga, 0, none⟩) 4 4) w4)
  go_wp2_with fail
  refine (is_any 2 2 _ _ _ HC7.out).mono ?_
  rintro e w' ⟨he, rfl⟩
  have he' : e = .returned (.bool true) := he
  subst he'
  clear he
  go_wp2_with fail
  refine HCr.out.mono ?_
  rintro e w5 ⟨he, hb5⟩
  have he' : e = .returned (.bool true) := he
  subst he'
  have HB8 := Lib.hid (gbelow_on HB7.out HN.out hb5)
  clear he hb5
  go_wp2_with fail
  go_ret
  exact ⟨rfl, HB8.out⟩
end Go.Proofs.YtnjohgfhagoppaaDoor
