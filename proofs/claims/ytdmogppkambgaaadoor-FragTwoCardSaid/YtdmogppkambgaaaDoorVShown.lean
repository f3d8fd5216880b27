/-
  What is proved: 'shown' of the laws of layer 5 answers true, and leaves all older memory as it was.
  Conditions: errors.errorType holds the handle of the type error.
-/
import Derived.Test.YtdmogppkambgaaaDoorVSame
namespace Go.Proofs.YtdmogppkambgaaaDoor
open Go.RowKit

/-- A block that holds just these bytes. -/
def BAt (W : World) (g : Nat) (l : List UInt8) : Prop := W.heap[g]? = some (bytesObj l)
section
variable {W W' : World} {g : Nat} {l : List UInt8}
theorem BAt.lt (h : BAt W g l) : g < W.heap.size := (Array.getElem?_eq_some_iff.1 h).1
theorem BAt.below (h : BAt W g l) (hb : Below W.heap.size W W') : BAt W' g l := (hb.block _ h.lt).trans h
theorem BAt.rd (h : BAt W g l) : Rd W (.slice (some ⟨g, 0, none⟩) l.length l.length) l := Rd.of_obj h (Nat.le_refl _)
theorem BAt.cell (h : BAt W g l) (i : Nat) (u : UInt8) (hu : l[i]? = some u) : W.cell? ⟨g, i, none⟩ = some (.int .u8 (u.toNat : Int)) := bytesCell h i u hu
theorem BAt.free (h : BAt W g l) (i : Nat) : W.frozen? ⟨g, i, none⟩ = false := by
  have h' : W.heap[g]? = some (bytesObj l) := h
  unfold bytesObj at h'
  simp [World.frozen?, h']
theorem BAt.set (h : BAt W g l) (i : Nat) (x : UInt8) : BAt (W.setCell ⟨g, i, none⟩ (B8 x)) g (l.set i x) := by
  have h' : W.heap[g]? = some (bytesObj l) := h
  unfold BAt
  rw [heap_set, h']
  simp [bytesObj, List.map_set]
theorem BAt.chain {n : Int} {k : List ByteArray} {v : Value} (h : BAt W g l) (hc : Chain W n k v) (i : Nat) (x : Value) : Chain (W.setCell ⟨g, i, none⟩ x) n k v := by
  have hcell : ∀ u, W.cell? ⟨g, i, none⟩ = some u → ∃ y, u = B8 y := by
    intro u hu
    rw [cell_of_row W g _ _ _ _ h] at hu
    have hu' : (l.map B8)[i]? = some u := by simpa using hu
    obtain ⟨y, _, e⟩ := getElem_B8 hu'
    exact ⟨y, e⟩
  refine hc.fr2 (Fr.of_set (p := (· = ⟨g, i, none⟩)) W _ x rfl) (fun a s ha e => ?_) (fun a T u ha e => ?_)
  · subst ha
    obtain ⟨y, hy⟩ := hcell _ e
    cases hy
  · subst ha
    obtain ⟨y, hy⟩ := hcell _ e
    cases hy
end
theorem rd_set {W : World} {G n c : Nat} {bs : List UInt8} (h : Rd W (.slice (some ⟨G, 0, none⟩) n c) bs) {g : Nat} (hne : G ≠ g) (i : Nat) (x : Value) : Rd (W.setCell ⟨g, i, none⟩ x) (.slice (some ⟨G, 0, none⟩) n c) bs := by
  obtain ⟨A, c', e, hc, hi⟩ := h
  refine ⟨A, c', e, hc, fun h0 => ?_⟩
  obtain ⟨g', o, e1, hi⟩ := hi h0
  refine ⟨g', o, e1, fun j u hu => ?_⟩
  cases e
  cases e1
  rw [World.cell?_setCell_other _ _ _ _ (fun e => hne (by injection e with h1 h2 h3; first | exact h1 | exact h1.symm))]
  exact hi j u hu
theorem told_ip {W : World} {m : Nat} {l : List ByteArray} {v : Value} (hm : m < 14) (hz : (text m l).size ≤ 1000000000) (hc : Chain W m l v) (t : ByteArray) (ht : text m l = t) :
    Calls Tryd.prog 19 #[v] W fun e w' => e = .returned (.string t) ∧ Below W.heap.size W w' := by
  subst ht
  refine (told_any m hm l v W hz hc).mono ?_
  rintro e w' ⟨rfl, k, rfl⟩
  exact ⟨rfl, ⟨rfl, rfl, rfl, Nat.le_refl _, fun _ _ => rfl⟩⟩
theorem ibelow_on {n : Nat} {w a b : World} (h : Below n w a) (hn : w.heap.size = n) (k : Below a.heap.size a b) : Below n w b := by subst hn; exact below_to h k h.size
theorem ipush_modify {α : Type} (a : Array α) (x : α) (f : α → α) : (a.push x).modify a.size f = a.push (f x) := by
  apply Array.ext
  · simp
  · intro i h1 h2
    simp only [Array.getElem_modify, Array.getElem_push]
    by_cases h : a.size = i
    · subst h
      simp
    · have hi : i < a.size := by simp at h1; omega
      simp [h, hi]
def xyObj : Obj := .cells #[.int .u8 120, .int .u8 121] 5
def xyMark : Obj := .cells #[.int .u8 120, .int .u8 121] 5 (2, 3)
theorem conv_xy (W : World) : (convert 23 23 (.slice (some ⟨W.heap.size, 0, none⟩) 2 2)).run Tryd.prog (W.alloc xyObj) = .ok (.slice (some ⟨W.heap.size, 0, none⟩) 2 2) (W.alloc xyMark) := by
  have hsh : (W.alloc xyObj).shape? W.heap.size = some (5, 2) := by
    unfold World.shape?
    rw [heap_alloc_new W xyObj]
    rfl
  have hfr : (W.alloc xyObj).freeze ⟨W.heap.size, 2, none⟩ 1 = W.alloc xyMark := by
    unfold World.freeze
    rw [if_neg (by decide)]
    show ({ W.alloc xyObj with heap := (W.heap.push xyObj).modify W.heap.size _ } : World) = _
    rw [ipush_modify]
    rfl
  rw [← hfr]
  simp [convert, run_underlying Tryd.underlying23, run_underlying Tryd.underlying5, markStringish, hsh]
def shI : Ip := ⟨0, 1, false, false, 0, 64, 17, 167772161, 167772162, [120, 121]⟩
theorem shI_in : shI.In := ⟨by decide, by decide, by decide, by decide, by decide, by decide, by decide, by decide⟩
theorem shI_good : shI.bad = 0 := by decide
def shV (g : Nat) : Obj := .cells #[.int .u8 0, .int .u16 1, .bool false, .bool false, .int .i64 0, .int .u8 64, .int .u8 17, .int .u32 167772161, .int .u32 167772162, .slice (some ⟨g, 0, none⟩) 2 2] 42
theorem shV_eq (g : Nat) : shI.obj (.slice (some ⟨g, 0, none⟩) 2 2) = shV g := rfl
theorem xy_rd (W : World) : Rd (W.alloc xyMark) (.slice (some ⟨W.heap.size, 0, none⟩) 2 2) [120, 121] := by
  have h := heap_alloc_new W xyMark
  unfold xyMark at h
  refine ⟨_, 2, rfl, Nat.le_refl _, fun _ => ⟨W.heap.size, 0, rfl, fun i u hu => ?_⟩⟩
  rw [xyMark, cell_of_row _ _ _ _ _ _ h]
  match i, hu with
  | 0, hu | 1, hu => cases hu; rfl
  | i + 2, hu => cases hu
/-- The packet of 'shown', its bytes' lowest but one of the first line turned. -/
def shH : Hd := { shI.hd shI.sum with ttl := 65 }
theorem shH_in : shH.In := ⟨by decide, by decide, by decide, by decide, by decide, by decide, by decide, by decide, by decide, by decide⟩
theorem shH_code : shH.code [120, 121] = 4 := by decide
theorem shI_bs : shI.bs.set 8 65 = shH.bs ++ [120, 121] := by decide
def shOff : Ip := ⟨0, 0, false, false, 4, 0, 0, 0, 0, []⟩
theorem shOff_bad : shOff.bad = 1 := by decide
end Go.Proofs.YtdmogppkambgaaaDoor
