/-
  What is proved: 'shown' of the laws of layer 6 answers true, and leaves all older memory as it was.
  Conditions: errors.errorType holds the handle of the type error.
-/
import Derived.Test.YtikcnlcpbifobaaDoorUTop
namespace Go.Proofs.YtikcnlcpbifobaaDoor
open Go.RowKit

/-- A block that holds just these bytes. -/
def BAt (W : World) (g : Nat) (l : List UInt8) : Prop := W.heap[g]? = some (bytesObj l)
section
variable {W W' : World} {g : Nat} {l : List UInt8}
theorem BAt.lt (h : BAt W g l) : g < W.heap.size := (Array.getElem?_eq_some_iff.1 h).1
theorem BAt.below (h : BAt W g l) (hb : Below W.heap.size W W') : BAt W' g l := (hb.block _ h.lt).trans h
theorem BAt.rd (h : BAt W g l) : Rd W (.slice (some ⟨g, 0, none⟩) l.length l.length) l := Rd.of_obj h (Nat.le_refl _)
theorem BAt.cell (h : BAt W g l) (i : Nat) (u : UInt8) (hu : l[i]? = some u) : W.cell? ⟨g, i, none⟩ = some (.int .u8 (u.toNat : Int)) := bytesCell h i u hu
theorem BAt.free (h : BAt W g l) (i : Nat) : W.frozen? ⟨g, i, none⟩ = false := by
  have h' : W.heap[g]? = some (bytesObj l) := h
  unfold bytesObj at h'
  simp [World.frozen?, h']
theorem BAt.set (h : BAt W g l) (i : Nat) (x : UInt8) : BAt (W.setCell ⟨g, i, none⟩ (B8 x)) g (l.set i x) := by
  have h' : W.heap[g]? = some (bytesObj l) := h
  unfold BAt
  rw [heap_set, h']
  simp [bytesObj, List.map_set]
theorem BAt.chain {n : Int} {k : List ByteArray} {v : Value} (h : BAt W g l) (hc : Chain W n k v) (i : Nat) (x : Value) : Chain (W.setCell ⟨g, i, none⟩ x) n k v := by
  have hcell : ∀ u, W.cell? ⟨g, i, none⟩ = some u → ∃ y, u = B8 y := by
    intro u hu
    rw [cell_of_row W g _ _ _ _ h] at hu
    have hu' : (l.map B8)[i]? = some u := by simpa using hu
    obtain ⟨y, _, e⟩ := getElem_B8 hu'
    exact ⟨y, e⟩
  refine hc.fr2 (Fr.of_set (p := (· = ⟨g, i, none⟩)) W _ x rfl) (fun a s ha e => ?_) (fun a T u ha e => ?_)
  · subst ha
    obtain ⟨y, hy⟩ := hcell _ e
    cases hy
  · subst ha
    obtain ⟨y, hy⟩ := hcell _ e
    cases hy
end
theorem rd_set {W : World} {G n c : Nat} {bs : List UInt8} (h : Rd W (.slice (some ⟨G, 0, none⟩) n c) bs) {g : Nat} (hne : G ≠ g) (i : Nat) (x : Value) : Rd (W.setCell ⟨g, i, none⟩ x) (.slice (some ⟨G, 0, none⟩) n c) bs := by
  obtain ⟨A, c', e, hc, hi⟩ := h
  refine ⟨A, c', e, hc, fun h0 => ?_⟩
  obtain ⟨g', o, e1, hi⟩ := hi h0
  refine ⟨g', o, e1, fun j u hu => ?_⟩
  cases e
  cases e1
  rw [World.cell?_setCell_other _ _ _ _ (fun e => hne (by injection e with h1 h2 h3; first | exact h1 | exact h1.symm))]
  exact hi j u hu
theorem told_u {W : World} {m : Nat} {l : List ByteArray} {v : Value} (hm : m < 14) (hz : (text m l).size ≤ 1000000000) (hc : Chain W m l v) (t : ByteArray) (ht : text m l = t) :
    Calls Tryd.prog 11 #[v] W fun e w' => e = .returned (.string t) ∧ Below W.heap.size W w' := by
  subst ht
  refine (told_any m hm l v W hz hc).mono ?_
  rintro e w' ⟨rfl, k, rfl⟩
  exact ⟨rfl, ⟨rfl, rfl, rfl, Nat.le_refl _, fun _ _ => rfl⟩⟩
theorem ubelow_on {n : Nat} {w a b : World} (h : Below n w a) (hn : w.heap.size = n) (k : Below a.heap.size a b) : Below n w b := by subst hn; exact below_to h k h.size
theorem upush_modify {α : Type} (a : Array α) (x : α) (f : α → α) : (a.push x).modify a.size f = a.push (f x) := by
  apply Array.ext
  · simp
  · intro i h1 h2
    simp only [Array.getElem_modify, Array.getElem_push]
    by_cases h : a.size = i
    · subst h
      simp
    · have hi : i < a.size := by simp at h1; omega
      simp [h, hi]
def abObj : Obj := .cells #[.int .u8 97, .int .u8 98] 5
def abMark : Obj := .cells #[.int .u8 97, .int .u8 98] 5 (2, 3)
theorem conv_ab (W : World) : (convert 22 22 (.slice (some ⟨W.heap.size, 0, none⟩) 2 2)).run Tryd.prog (W.alloc abObj) = .ok (.slice (some ⟨W.heap.size, 0, none⟩) 2 2) (W.alloc abMark) := by
  have hsh : (W.alloc abObj).shape? W.heap.size = some (5, 2) := by
    unfold World.shape?
    rw [heap_alloc_new W abObj]
    rfl
  have hfr : (W.alloc abObj).freeze ⟨W.heap.size, 2, none⟩ 1 = W.alloc abMark := by
    unfold World.freeze
    rw [if_neg (by decide)]
    show ({ W.alloc abObj with heap := (W.heap.push abObj).modify W.heap.size _ } : World) = _
    rw [upush_modify]
    rfl
  rw [← hfr]
  simp [convert, run_underlying Tryd.underlying22, run_underlying Tryd.underlying5, markStringish, hsh]
theorem ab_rd (W : World) : Rd (W.alloc abMark) (.slice (some ⟨W.heap.size, 0, none⟩) 2 2) [97, 98] := by
  have h := heap_alloc_new W abMark
  unfold abMark at h
  refine ⟨_, 2, rfl, Nat.le_refl _, fun _ => ⟨W.heap.size, 0, rfl, fun i u hu => ?_⟩⟩
  rw [abMark, cell_of_row _ _ _ _ _ _ h]
  match i, hu with
  | 0, hu | 1, hu => cases hu; rfl
  | i + 2, hu => cases hu
theorem DgAt.set2 {W : World} {G : Nat} {d : Dg} {bv : Value} (h : DgAt W G d bv) (p : Bool) : DgAt (W.setCell ⟨G, 2, none⟩ (.bool p)) G { d with plain := p } bv := by
  have h' : W.heap[G]? = some (d.obj bv) := h
  unfold DgAt
  rw [heap_set, h']
  simp [Dg.obj]
theorem DgAt.set3 {W : World} {G : Nat} {d : Dg} {bv : Value} (h : DgAt W G d bv) (v : Value) : DgAt (W.setCell ⟨G, 3, none⟩ v) G d v := by
  have h' : W.heap[G]? = some (d.obj bv) := h
  unfold DgAt
  rw [heap_set, h']
  simp [Dg.obj]
def shA : Dg := ⟨1, 2, true, []⟩
def shB : Dg := ⟨1, 2, false, [97, 98]⟩
theorem shA_cells {W : World} {G : Nat} {bv : Value} (h : DgAt W G shA bv) : W.cell? ⟨G, 0, none⟩ = some (.int .u16 1) ∧ W.cell? ⟨G, 1, none⟩ = some (.int .u16 2) ∧ W.cell? ⟨G, 2, none⟩ = some (.bool true) ∧ W.cell? ⟨G, 3, none⟩ = some bv := h.cells
theorem shC_cells {W : World} {G : Nat} {bv : Value} (h : DgAt W G { shA with plain := false } bv) : W.cell? ⟨G, 0, none⟩ = some (.int .u16 1) ∧ W.cell? ⟨G, 1, none⟩ = some (.int .u16 2) ∧ W.cell? ⟨G, 2, none⟩ = some (.bool false) ∧ W.cell? ⟨G, 3, none⟩ = some bv := h.cells
theorem shA_bs : shA.bs 5 6 = [0, 1, 0, 2, 0, 8, 0, 0] := by decide
theorem shB_bs : shB.bs 5 6 = [0, 1, 0, 2, 0, 10, 158, 106, 97, 98] := by decide
theorem ush1 (W : World) : Calls Tryd.prog 13 #[.agg #[.int .u16 1, .int .u16 2, .bool true, .slice none 0 0], .int .u32 5, .int .u32 6] W fun e w' => ∃ b, e = .returned (.tuple #[.slice (some ⟨b, 0, none⟩) 8 8, .nilIface]) ∧ W.heap.size ≤ b ∧ BAt w' b [0, 1, 0, 2, 0, 8, 0, 0] ∧ Below W.heap.size W w' := by
  have h := uBytes_ok shA ⟨by decide, by decide, by decide⟩ (by decide) none 0 5 6 W (Rd.nil W)
  rw [shA_bs] at h
  exact h
theorem ush3 (g : Nat) (W : World) (hr : Rd W (.slice (some ⟨g, 0, none⟩) 2 2) [97, 98]) : Calls Tryd.prog 13 #[.agg #[.int .u16 1, .int .u16 2, .bool false, .slice (some ⟨g, 0, none⟩) 2 2], .int .u32 5, .int .u32 6] W fun e w' => ∃ b, e = .returned (.tuple #[.slice (some ⟨b, 0, none⟩) 10 10, .nilIface]) ∧ W.heap.size ≤ b ∧ BAt w' b [0, 1, 0, 2, 0, 10, 158, 106, 97, 98] ∧ Below W.heap.size W w' := by
  have h := uBytes_ok shB ⟨by decide, by decide, by decide⟩ (by decide) (some ⟨g, 0, none⟩) 2 5 6 W hr
  rw [shB_bs] at h
  exact h
theorem ush2 (g cap : Nat) (W : World) (hr : Rd W (.slice (some ⟨g, 0, none⟩) 9 cap) [0, 1, 0, 2, 0, 8, 0, 0, 7]) : Calls Tryd.prog 9 #[.slice (some ⟨g, 0, none⟩) 9 cap, .int .u32 9, .int .u32 9] W fun e w' => ∃ bb, e = .returned (.tuple #[.agg #[.int .u16 1, .int .u16 2, .bool true, .slice (some ⟨bb, 0, none⟩) 0 0], .nilIface]) ∧ Below W.heap.size W w' := by
  refine (uParse_long 1 (by decide) 2 (by decide) 8 (by decide) 0 (by decide) [7] (some ⟨g, 0, none⟩) cap 9 9 W hr (by decide)).mono ?_
  rintro e w' (⟨h, _⟩ | ⟨_, bb, he, _, _, hb⟩)
  · exact absurd (by decide) h
  · exact ⟨bb, he, hb⟩
theorem ush4 (g : Nat) (W : World) (hr : Rd W (.slice (some ⟨g, 0, none⟩) 10 10) [0, 1, 0, 2, 0, 10, 158, 106, 97, 98]) : Calls Tryd.prog 9 #[.slice (some ⟨g, 0, none⟩) 10 10, .int .u32 5, .int .u32 6] W fun e w' => ∃ bb, e = .returned (.tuple #[.agg #[.int .u16 1, .int .u16 2, .bool false, .slice (some ⟨bb, 0, none⟩) 2 2], .nilIface]) ∧ Below W.heap.size W w' := by
  refine (uParse_long 1 (by decide) 2 (by decide) 10 (by decide) 40554 (by decide) [97, 98] (some ⟨g, 0, none⟩) 10 5 6 W hr (by decide)).mono ?_
  rintro e w' (⟨h, _⟩ | ⟨_, bb, he, _, _, hb⟩)
  · exact absurd (by decide) h
  · exact ⟨bb, he, hb⟩
def UBad (n : Int) (W : World) (e : Ending) (w' : World) : Prop := ∃ b, e = .returned (.tuple #[.agg #[.int .u16 0, .int .u16 0, .bool false, .slice none 0 0], .iface 98 (.pointer (some ⟨b, 0, none⟩))]) ∧ Chain w' n [udpWord] (.iface 98 (.pointer (some ⟨b, 0, none⟩))) ∧ Below W.heap.size W w'
theorem ush5 (g : Nat) (W : World) (hr : Rd W (.slice (some ⟨g, 0, none⟩) 10 10) [0, 1, 0, 2, 0, 10, 158, 106, 97, 98]) : Calls Tryd.prog 9 #[.slice (some ⟨g, 0, none⟩) 10 10, .int .u32 5, .int .u32 7] W (UBad 4 W) := by
  refine (uParse_long 1 (by decide) 2 (by decide) 10 (by decide) 40554 (by decide) [97, 98] (some ⟨g, 0, none⟩) 10 5 7 W hr (by decide)).mono ?_
  have hc : ucode 5 7 1 2 10 40554 [97, 98] = 4 := by decide
  rw [hc]
  rintro e w' (⟨_, h⟩ | ⟨h, _⟩)
  · exact h
  · exact absurd h (by decide)
theorem ush6 (g : Nat) (W : World) (hr : Rd W (.slice (some ⟨g, 0, none⟩) 9 10) [0, 1, 0, 2, 0, 10, 158, 106, 97]) : Calls Tryd.prog 9 #[.slice (some ⟨g, 0, none⟩) 9 10, .int .u32 5, .int .u32 6] W (UBad 2 W) := by
  refine (uParse_long 1 (by decide) 2 (by decide) 10 (by decide) 40554 (by decide) [97] (some ⟨g, 0, none⟩) 10 5 6 W hr (by decide)).mono ?_
  have hc : ucode 5 6 1 2 10 40554 [97] = 2 := by decide
  rw [hc]
  rintro e w' (⟨_, h⟩ | ⟨h, _⟩)
  · exact h
  · exact absurd h (by decide)
set_option maxRecDepth 100000 in
set_option maxHeartbeats 4000000 in
theorem uShown_any (w : World) (hg : Hdl w) : Calls Tryd.prog 8 #[] w fun e w' => e = .returned (.bool true) ∧ Below w.heap.size w w' := by
  have HG := Lib.hid hg
  have HP : Hid (DgAt (w.alloc (.cells #[.int .u16 1, .int .u16 2, .bool true, .slice none 0 0] 25)) w.heap.size shA (.slice none 0 0)) := DgAt.new w shA (.slice none 0 0)
  have HB : Hid (Below w.heap.size w (w.alloc (.cells #[.int .u16 1, .int .u16 2, .bool true, .slice none 0 0] 25))) := below_al (Below.refl w.heap.size w) _
  clear hg
  generalize hW : w.alloc (.cells #[.int .u16 1, .int .u16 2, .bool true, .slice none 0 0] 25) = W0 at HP HB
  have HWW := Lib.hid hW
  clear hW
  go_enter Tryd.func8, Tryd.ntmps8
  go_upto_region 2 with fail
  rw [HWW.out]
  clear HWW
  generalize hn : w.heap.size = n at *
  have HW := Lib.hid hn
  clear hn
  have X1 := Lib.hid (ush1 W0)
  obtain ⟨c0, c1, c2, c3⟩ := shA_cells HP.out
  go_wp2_with fail
  refine X1.out.mono ?_
  rintro e w1 ⟨b, rfl, hbn, hbo, hl1⟩
  have HP1 := Lib.hid (HP.out.below hl1)
  have HB1 := Lib.hid (ubelow_on HB.out HW.out hl1)
  have HY1 := Lib.hid hbo
  have HNB : Hid (n < b) := Nat.lt_of_lt_of_le HP.out.lt hbn
  clear X1 HP HB hbn hbo hl1 c0 c1 c2 c3
  go_upto_region 3 with fail
  have m1 := Mine.first (Below.refl w1.heap.size w1)
  have y1 := HY1.out.below (W' := w1.alloc (.cells #[] 5)) (below_al (Below.refl _ _) _)
  obtain ⟨g2, k2, w2, run2, m2, _, _, s2⟩ := m1.append [0, 1, 0, 2, 0, 8, 0, 0] (.slice (some ⟨b, 0, none⟩) 8 8) y1.rd (by decide)
  have m3 := m2.alloc (bytesObj [7])
  obtain ⟨g4, k4, w4, run4, m4, _, _, s4⟩ := m3.append [7] (.slice (some ⟨w2.heap.size, 0, none⟩) 1 1) (Rd.of_obj (c := 1) (bytesObj_new w2 [7]) (by decide)) (by decide)
  have E2 : Hid ((Builtin.append_ #[22, 22] 22 #[.slice (some ⟨w1.heap.size, 0, none⟩) 0 0, .slice (some ⟨b, 0, none⟩) 8 8]).run Tryd.prog (w1.alloc (.cells #[] 5)) = .ok (.slice (some ⟨g2, 0, none⟩) 8 k2) w2) := run2
  have E4 : Hid ((Builtin.append_ #[22, 22] 22 #[.slice (some ⟨g2, 0, none⟩) 8 k2, .slice (some ⟨w2.heap.size, 0, none⟩) 1 1]).run Tryd.prog (w2.alloc (.cells #[.int .u8 7] 5)) = .ok (.slice (some ⟨g4, 0, none⟩) 9 k4) w4) := run4
  have X2 := Lib.hid (ush2 g4 k4 w4 m4.rd)
  have HP4 := Lib.hid (HP1.out.below m4.old)
  have HB4 := Lib.hid (ubelow_on HB1.out HW.out m4.old)
  have HY4 := Lib.hid (HY1.out.below m4.old)
  clear m1 y1 run2 m2 s2 m3 run4 m4 s4 HP1 HB1 HY1
  go_wp2_with (first
    | (at_builtin; refine wpList_append_eq rfl (.tmp 21) (.tmp 22) 22 rfl _ _ rfl rfl _ _ E2.out ?_)
    | (at_builtin; refine wpList_append_eq rfl (.tmp 23) (.tmp 24) 22 rfl _ _ rfl rfl _ _ E4.out ?_))
  refine X2.out.mono ?_
  rintro e w5 ⟨b5, rfl, hl5⟩
  have hb6 := below_al (Below.refl w5.heap.size w5) (.cells #[.int .u16 1, .int .u16 2, .bool true, .slice (some ⟨b5, 0, none⟩) 0 0] 25)
  have l6 := below_to hl5 hb6 hl5.size
  have HQ6 : Hid (DgAt (w5.alloc (.cells #[.int .u16 1, .int .u16 2, .bool true, .slice (some ⟨b5, 0, none⟩) 0 0] 25)) w5.heap.size shA (.slice (some ⟨b5, 0, none⟩) 0 0)) := DgAt.new w5 shA (.slice (some ⟨b5, 0, none⟩) 0 0)
  have HP6 := Lib.hid (HP4.out.below l6)
  have HY6 := Lib.hid (HY4.out.below l6)
  have HB6 := Lib.hid (ubelow_on HB4.out HW.out l6)
  have HNQ : Hid (b < w5.heap.size ∧ n < w5.heap.size) := ⟨Nat.lt_of_lt_of_le HY4.out.lt hl5.size, Nat.lt_of_lt_of_le HP4.out.lt hl5.size⟩
  clear hl5 hb6 l6 HP4 HY4 HB4 E2 E4 X2
  go_upto_region 4 with fail
  generalize w5.alloc (.cells #[.int .u16 1, .int .u16 2, .bool true, .slice (some ⟨b5, 0, none⟩) 0 0] 25) = W6 at *
  generalize w5.heap.size = g6 at *
  have k2 := (shA_cells HP6.out).2.2.1
  have z2 := HP6.out.free 2
  go_upto_region 5 with fail
  have HQ7 : Hid (DgAt (W6.setCell ⟨n, 2, none⟩ (.bool false)) g6 shA (.slice (some ⟨b5, 0, none⟩) 0 0)) := set_block HQ6.out (Nat.ne_of_gt HNQ.out.2) _
  have HP7 : Hid (DgAt (W6.setCell ⟨n, 2, none⟩ (.bool false)) n { shA with plain := false } (.slice none 0 0)) := HP6.out.set2 false
  have HY7 : Hid (BAt (W6.setCell ⟨n, 2, none⟩ (.bool false)) b [0, 1, 0, 2, 0, 8, 0, 0]) := set_block HY6.out (Nat.ne_of_gt HNB.out) _
  have HB7 : Hid (Below n w (W6.setCell ⟨n, 2, none⟩ (.bool false))) := HB6.out.setCell (p := ⟨n, 2, none⟩) (Nat.le_refl _) _
  clear k2 z2 HQ6 HP6 HY6 HB6
  generalize W6.setCell ⟨n, 2, none⟩ (.bool false) = W7 at *
  have cv := conv_ab W7
  have l8 := below_al (Below.refl W7.heap.size W7) abMark
  have HR8 := Lib.hid (ab_rd W7)
  have HQ8 := Lib.hid (HQ7.out.below l8)
  have HP8 := Lib.hid (HP7.out.below l8)
  have HY8 := Lib.hid (HY7.out.below l8)
  have HB8 := Lib.hid (ubelow_on HB7.out HW.out l8)
  have HN8 : Hid (n < W7.heap.size) := HP7.out.lt
  have k3 := HP8.out.cells.2.2.2
  have z3 := HP8.out.free 3
  clear l8 HQ7 HP7 HY7 HB7
  unfold abObj at cv
  generalize hW8 : W7.alloc abMark = W8 at *
  unfold abMark at hW8
  go_upto_region 6 with fail
  clear cv hW8
  generalize W7.heap.size = r8 at *
  have HQ9 : Hid (DgAt (W8.setCell ⟨n, 3, none⟩ (.slice (some ⟨r8, 0, none⟩) 2 2)) g6 shA (.slice (some ⟨b5, 0, none⟩) 0 0)) := set_block HQ8.out (Nat.ne_of_gt HNQ.out.2) _
  have HP9 : Hid (DgAt (W8.setCell ⟨n, 3, none⟩ (.slice (some ⟨r8, 0, none⟩) 2 2)) n { shA with plain := false } (.slice (some ⟨r8, 0, none⟩) 2 2)) := HP8.out.set3 _
  have HY9 : Hid (BAt (W8.setCell ⟨n, 3, none⟩ (.slice (some ⟨r8, 0, none⟩) 2 2)) b [0, 1, 0, 2, 0, 8, 0, 0]) := set_block HY8.out (Nat.ne_of_gt HNB.out) _
  have HR9 : Hid (Rd (W8.setCell ⟨n, 3, none⟩ (.slice (some ⟨r8, 0, none⟩) 2 2)) (.slice (some ⟨r8, 0, none⟩) 2 2) [97, 98]) := rd_set HR8.out (Nat.ne_of_gt HN8.out) _ _
  have HB9 : Hid (Below n w (W8.setCell ⟨n, 3, none⟩ (.slice (some ⟨r8, 0, none⟩) 2 2))) := HB8.out.setCell (p := ⟨n, 3, none⟩) (Nat.le_refl _) _
  clear k3 z3 HQ8 HP8 HY8 HR8 HB8
  generalize W8.setCell ⟨n, 3, none⟩ (.slice (some ⟨r8, 0, none⟩) 2 2) = W9 at *
  have X3 := Lib.hid (ush3 r8 W9 HR9.out)
  obtain ⟨c0, c1, c2, c3⟩ := shC_cells HP9.out
  go_wp2_with fail
  refine X3.out.mono ?_
  rintro e w10 ⟨cb, rfl, _, hc10, hl10⟩
  have HQ10 := Lib.hid (HQ9.out.below hl10)
  have HY10 := Lib.hid (HY9.out.below hl10)
  have HC10 := Lib.hid hc10
  have HB10 := Lib.hid (ubelow_on HB9.out HW.out hl10)
  clear c0 c1 c2 c3 hc10 hl10 X3 HQ9 HP9 HY9 HR9 HB9
  have X4 := Lib.hid (ush4 cb w10 HC10.out.rd)
  go_wp2_with fail
  refine X4.out.mono ?_
  rintro e w11 ⟨b11, rfl, hl11⟩
  have l12 := below_to hl11 (below_al (Below.refl w11.heap.size w11) (.cells #[.int .u16 1, .int .u16 2, .bool false, .slice (some ⟨b11, 0, none⟩) 2 2] 25)) hl11.size
  have HQ12 := Lib.hid (HQ10.out.below l12)
  have HY12 := Lib.hid (HY10.out.below l12)
  have HC12 := Lib.hid (HC10.out.below l12)
  have HB12 := Lib.hid (ubelow_on HB10.out HW.out l12)
  clear hl11 l12 X4 HQ10 HY10 HC10 HB10
  go_upto_region 8 with fail
  generalize w11.alloc (.cells #[.int .u16 1, .int .u16 2, .bool false, .slice (some ⟨b11, 0, none⟩) 2 2] 25) = W12 at *
  have X5 := Lib.hid (ush5 cb W12 HC12.out.rd)
  unfold UBad at X5
  go_wp2_with fail
  refine X5.out.mono ?_
  rintro e w13 ⟨b13, rfl, hc13, hl13⟩
  have b14 := below_al (Below.refl w13.heap.size w13) (.cells #[.int .u16 0, .int .u16 0, .bool false, .slice none 0 0] 25)
  have l14 := below_to hl13 b14 hl13.size
  have HQ14 := Lib.hid (HQ12.out.below l14)
  have HY14 := Lib.hid (HY12.out.below l14)
  have HC14 := Lib.hid (HC12.out.below l14)
  have HB14 := Lib.hid (ubelow_on HB12.out HW.out l14)
  have HI14 := Lib.hid (hc13.below b14)
  clear hl13 hc13 b14 l14 X5 HQ12 HY12 HC12 HB12
  go_upto_region 9 with fail
  generalize w13.alloc (.cells #[.int .u16 0, .int .u16 0, .bool false, .slice none 0 0] 25) = W14 at *
  have X6 := Lib.hid (ush6 cb W14 (HC14.out.rd.front (K := 9) (by decide)))
  have hmin := fun W => min_run (P := Tryd.prog) #[3, 3] 3 9 10 9 (by decide) W
  unfold UBad at X6
  go_wp2_with fail
  refine X6.out.mono ?_
  rintro e w15 ⟨b15, rfl, hc15, hl15⟩
  have b16 := below_al (Below.refl w15.heap.size w15) (.cells #[.int .u16 0, .int .u16 0, .bool false, .slice none 0 0] 25)
  have l16 := below_to hl15 b16 hl15.size
  have HQ16 := Lib.hid (HQ14.out.below l16)
  have HY16 := Lib.hid (HY14.out.below l16)
  have HB16 := Lib.hid (ubelow_on HB14.out HW.out l16)
  have HI16 := Lib.hid (HI14.out.below l16)
  have HJ16 := Lib.hid (hc15.below b16)
  clear hl15 hc15 b16 l16 X6 HQ14 HY14 HC14 HB14 HI14 hmin
  go_upto_region 10 with fail
  generalize w15.alloc (.cells #[.int .u16 0, .int .u16 0, .bool false, .slice none 0 0] 25) = W16 at *
  obtain ⟨c0, c1, c2, c3⟩ := shA_cells HQ16.out
  have cv : (convert 22 9 (.slice (some ⟨b, 0, none⟩) 8 8)).run Tryd.prog W16 = .ok (.string ⟨#[0, 1, 0, 2, 0, 8, 0, 0]⟩) W16 := convert_rd HY16.out.rd
  have XC := Lib.hid (code_any 4 _ _ _ (HG.out.below (by rw [HW.out]; exact HB16.out)) HI16.out)
  go_wp2_with fail
  refine XC.out.mono ?_
  rintro e w17 ⟨rfl, hl17⟩
  have HB17 := Lib.hid (ubelow_on HB16.out HW.out hl17)
  have XT := Lib.hid (told_u (m := 2) (by omega) (by decide) (HJ16.out.below hl17) ⟨#[117, 100, 112, 58, 32, 101, 114, 114, 111, 114, 32, 50]⟩ (by decide))
  clear hl17 XC cv c0 c1 c2 c3 HB16 HJ16 HI16 HQ16 HY16
  go_wp2_with fail
  refine XT.out.mono ?_
  rintro e w18 ⟨rfl, hl18⟩
  have HB18 := Lib.hid (ubelow_on HB17.out HW.out hl18)
  clear hl18 XT
  go_wp2_with fail
  go_ret
  exact ⟨rfl, by rw [HW.out]; exact HB18.out⟩
end Go.Proofs.YtikcnlcpbifobaaDoor
