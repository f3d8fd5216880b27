/-
  What is proved: slices.SortFunc with route.inOrder: a row of routes, each of another key, becomes the rising row of the same routes.
  Conditions: at most 64 routes.
-/
import Derived.Test.YtimpellpfnmicaaRtCmp
import Derived.Test.YtimpellpfnmicaaRtSort
namespace Go.Proofs.Ytimpellpfnmicaa
open Go.RowKit Go.Sort Go.Shelf

def encRt (r : Rt) : List Value := [.int .u32 r.d, .int .i64 r.b, .int .u32 r.v, .int .i64 r.o]
theorem ltRt (r s : Rt) : ltOf cmpRt r s = decide (Lo r s) := by
  unfold ltOf cmpRt cmpI Lo
  by_cases h1 : r.d < s.d
  · simp [h1]
  · by_cases h2 : s.d < r.d
    · have h3 : ¬ r.d = s.d := by omega
      simp [h1, h2, h3]
    · have h3 : r.d = s.d := by omega
      by_cases h4 : r.b < s.b
      · simp [h3, h4]
      · by_cases h5 : s.b < r.b <;> simp [h3, h4, h5]
theorem swoRt : SWO (ltOf cmpRt) where
  irrefl x := by rw [ltRt]; simp [Lo.irrefl]
  trans x y z h1 h2 := by rw [ltRt] at *; simp at *; exact h1.trans h2
  ntrans x y z h1 h2 := by rw [ltRt] at *; simp at *; unfold Lo at *; omega
theorem cmpLaysRt (blk off size : Nat) (w : World) : CmpLays Try.prog 26 #[] encRt 4 cmpRt blk off size w :=
  fun _ _ _ _ x y => inOrder_any x y _

theorem grownBy_sortedK {w : World} {g n : Nat} {os : Array Obj} (d : Array Rt) : w.grownBy (sortWorldK encRt 4 w g 0 n d os) (some g) := by
  unfold sortWorldK putRowK
  refine ⟨rfl, rfl, rfl, by simp, fun k hk hne => ?_⟩
  rw [heap_grow_old _ _ (by simpa using hk)]
  have : g ≠ k := fun e => hne (by rw [e])
  simp [putRow, mapBlock, Sort.ahead, Array.getElem?_modify, this]

/-- The routes lie in a row. -/
def RtsIn (w : World) (A : Option Addr) (L : List Rt) : Prop :=
  ∀ k r, L[k]? = some r → ∃ g o, A = some ⟨g, o, none⟩ ∧ w.cell? ⟨g, o + k * 4, none⟩ = some (.int .u32 r.d) ∧ w.cell? ⟨g, o + k * 4 + 1, none⟩ = some (.int .i64 r.b) ∧ w.cell? ⟨g, o + k * 4 + 2, none⟩ = some (.int .u32 r.v) ∧ w.cell? ⟨g, o + k * 4 + 3, none⟩ = some (.int .i64 r.o)

theorem sorted_is {d d' : Array Rt} {L : List Rt} (hp : PermIn 0 d.size d d') (hs : SortedIn (ltOf cmpRt) 0 d.size d') (hL : Srt L) (hd : d.toList.Perm L) : d'.toList = L := by
  obtain ⟨h1, _, h3⟩ := hp
  have e1 : (d'.extract 0 d.size).toList = d'.toList := by rw [← h1]; simp
  have e2 : (d.extract 0 d.size).toList = d.toList := by simp
  have hp' : d'.toList.Perm d.toList := by rw [← e1, ← e2]; exact h3
  have hpL := hp'.trans hd
  refine srt_ext ?_ hL (fun x => hpL.mem_iff)
  have hnd : d'.toList.Pairwise (fun r s => ¬ Same r.d r.b s) := by
    refine (hpL.pairwise_iff (fun {a b} h k => h ⟨k.1.symm, k.2.symm⟩)).2 ?_
    exact hL.imp fun {a b} h k => (h.ne a.d a.b) ⟨⟨rfl, rfl⟩, k⟩
  rw [Srt, List.pairwise_iff_getElem] at *
  intro i j hi hj hij
  have a := hnd i j hi hj hij
  have b := hs i j (Nat.zero_le _) hij (by rw [← h1]; simpa using hj)
  rw [ltRt, getElem!_pos d' i (by simpa using hi), getElem!_pos d' j (by simpa using hj)] at b
  simp only [Array.getElem_toList] at a ⊢
  have b' : ¬ Lo d'[j] d'[i] := by simpa using b
  rcases Lo.or d'[i] d'[j] with h | h | h
  · exact h
  · exact absurd h b'
  · exact absurd ⟨h.1.symm, h.2.symm⟩ a

set_option maxHeartbeats 1000000 in
theorem sort_any (g cap : Nat) (d : Array Rt) (L : List Rt) (hL : Srt L) (hd : d.toList.Perm L) (w : World) (hH : HoldsK encRt 4 w g 0 d) (hg : g < w.heap.size) (hn : d.size ≤ 64) :
    Calls Try.prog 29 #[.slice (some ⟨g, 0, none⟩) d.size cap, .func (.func 26) #[] #[]] w fun e w' => e = .returned (.tuple #[]) ∧ RtsIn w' (some ⟨g, 0, none⟩) L ∧ w.grownBy w' (some g) := by
  have eg : ∀ args w, (callFunc 26 args).run Try.prog w = .ok (.enter 26 args) w := enters_of Try.func26 (by kernel_rfl) rfl
  have hcon := AnyQ.slices_SortFunc rtSort 4 Try.isAgg33 Try.sizeOf33 encRt (fun _ => rfl) (fun x v hv => by simp [encRt] at hv; rcases hv with rfl | rfl | rfl | rfl <;> rfl) cmpRt swoRt 26 #[] g 0 cap d w eg (cmpLaysRt g 0 d.size w) hH hg (by omega)
  change Calls Try.prog 29 _ _ _ at hcon
  refine hcon.mono ?_
  rintro e w' ⟨rfl, d', n, os, hp, hs, rfl⟩
  have hd' := sorted_is hp hs hL hd
  refine ⟨rfl, ?_, grownBy_sortedK d'⟩
  have hK : HoldsK encRt 4 (sortWorldK encRt 4 w g 0 n d' os) g 0 d' :=
    holdsK_grow _ _ _ _ _ _ _ (by show g < (putRow _ _ _ _ _).heap.size; rw [size_putRow]; exact hg) (holdsK_putRowK _ _ _ _ _ d d' (holdsK_ahead _ _ w n g 0 d hH) hp.1)
  intro k r hk
  refine ⟨g, 0, rfl, ?_⟩
  rw [← hd'] at hk
  obtain ⟨hk1, hk2⟩ := List.getElem?_eq_some_iff.1 hk
  have hk3 : k < d'.size := by simpa using hk1
  have hr : d'[k]! = r := by rw [getElem!_pos d' k hk3, ← hk2, Array.getElem_toList]
  have c0 := (hK.cell hk3 (show 0 < 4 by omega)).1
  have c1 := (hK.cell hk3 (show 1 < 4 by omega)).1
  have c2 := (hK.cell hk3 (show 2 < 4 by omega)).1
  have c3 := (hK.cell hk3 (show 3 < 4 by omega)).1
  rw [hr] at c0 c1 c2 c3
  exact ⟨c0, c1, c2, c3⟩
end Go.Proofs.Ytimpellpfnmicaa
