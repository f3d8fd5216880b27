/-
  What is proved: (*route.Table).Del by contract: the answer, and what the table's map holds behind it; route.New.
  Conditions: the numbers fit their types.
-/
import Derived.Test.YtimpellpfnmicaaRtAdd
namespace Go.Proofs.Ytimpellpfnmicaa
open Go.RowKit

def delCode (L : List Rt) (d x : Int) : Int := if (look L d x).isSome then 0 else 6
theorem del_none {L : List Rt} {d x : Int} (h : (look L d x).isSome = false) : delL L d x = L := by
  have h2 : look L d x = none := by simpa using h
  exact List.filter_eq_self.2 fun r hr => by simp [look_none.1 h2 r hr]

set_option maxRecDepth 100000 in
set_option maxHeartbeats 2000000 in
theorem del_any (L : List Rt) (d x : Int) (hd : U32 d) (hx : I64 x) (p b : Nat) (w : World) (h : Tab w p b L) :
    Calls Try.prog 21 #[.pointer (some ⟨p, 0, none⟩), .int .u32 d, .int .i64 x] w fun e w' => e = .returned (.int .i64 (delCode L d x)) ∧ Tab w' p b (delL L d x) ∧ w.grownBy w' (some b) := by
  obtain ⟨cc, hcc⟩ : ∃ c : Int, delCode L d x = c := ⟨_, rfl⟩
  obtain ⟨L', hL'⟩ : ∃ l : List Rt, delL L d x = l := ⟨_, rfl⟩
  rw [hcc, hL']
  have Hc := Lib.hid hcc
  have HL := Lib.hid hL'
  clear hcc hL'
  have HT := Lib.hid h
  have HX := Lib.hid (And.intro hd hx)
  clear h hd hx
  go_enter Try.func21, Try.ntmps21
  go_upto_region 2 with fail
  have hK2 := Lib.hid (KyAt.new w d x)
  have hB2 := Lib.hid ((Below.refl _ w).alloc (Nat.le_refl _) (kyObj d x))
  unfold kyObj at hK2 hB2
  generalize w.alloc (Obj.cells #[Value.int IntKind.u32 d, Value.int IntKind.i64 x] 62) = w2 at hK2 hB2 ⊢
  generalize w.heap.size = K at hK2 ⊢
  obtain ⟨q, hq⟩ : ∃ q : Rt, (look L d x).getD Rt.zero = q := ⟨_, rfl⟩
  obtain ⟨is, his⟩ : ∃ is : Bool, (look L d x).isSome = is := ⟨_, rfl⟩
  have KS : Hid (∀ W', Below w2.heap.size w2 W' → W'.cell? ⟨p, 0, none⟩ = some (.map (some b)) ∧ W'.cell? ⟨K, 0, none⟩ = some (.int .u32 d) ∧ W'.cell? ⟨K, 1, none⟩ = some (.int .i64 x) ∧ (Instr.lookup 56 (.map (some b)) (.agg #[.int .u32 d, .int .i64 x]) true).run Try.prog W' = .ok (.tuple #[.agg #[.int .u32 q.d, .int .i64 q.b, .int .u32 q.v, .int .i64 q.o], .bool is]) W') := fun W' hW => by
    have t := (HT.out.below hB2.out).below hW
    have k := hK2.out.below hW
    have l := t.asked HX.out.1 HX.out.2
    rw [hq, his] at l
    exact ⟨t.cell, k.c0, k.c1, l⟩
  have His := Lib.hid his
  clear hq his
  go_region_held_law (fun W' => W'.cell? ⟨p, 0, none⟩ = some (.map (some b)) ∧ W'.cell? ⟨K, 0, none⟩ = some (.int .u32 d) ∧ W'.cell? ⟨K, 1, none⟩ = some (.int .i64 x) ∧ (Instr.lookup 56 (.map (some b)) (.agg #[.int .u32 d, .int .i64 x]) true).run Try.prog W' = .ok (.tuple #[.agg #[.int .u32 q.d, .int .i64 q.b, .int .u32 q.v, .int .i64 q.o], .bool is]) W')
    (first | assumption | exact KS.out _ (below_dN (Below.refl _ w2) 1) | exact KS.out _ (below_al (below_dN (Below.refl _ w2) 1) _) | exact KS.out _ (Below.refl _ w2))
    (fail)
  all_goals
    clear KS
    have hB3 := Lib.hid (below_dN (hB2.out.alloc hB2.out.size (Obj.cells #[Value.int IntKind.u32 q.d, Value.int IntKind.i64 q.b, Value.int IntKind.u32 q.v, Value.int IntKind.i64 q.o] 33)) 1)
    have hT3 := Lib.hid (HT.out.below hB3.out)
    have hK3 := Lib.hid (hK2.out.below (below_dN ((Below.refl _ w2).alloc (Nat.le_refl _) (Obj.cells #[Value.int IntKind.u32 q.d, Value.int IntKind.i64 q.b, Value.int IntKind.u32 q.v, Value.int IntKind.i64 q.o] 33)) 1))
    change Hid (Below _ _ (World.drew _)) at hB3
    change Hid (Tab (World.drew _) _ _ _) at hT3
    change Hid (KyAt (World.drew _) _ _ _) at hK3
    generalize (w2.alloc (Obj.cells #[Value.int IntKind.u32 q.d, Value.int IntKind.i64 q.b, Value.int IntKind.u32 q.v, Value.int IntKind.i64 q.o] 33)).drew = w3 at hB3 hT3 hK3 ⊢
    generalize w2.heap.size = X
    clear hB2 hK2
    have hp := hT3.out.cell
    obtain ⟨k0, k1⟩ := hK3.out
    cases is with
    | true =>
      obtain ⟨w4, hr4, hT4, hm4⟩ := (hT3.out.drewN 1).drop HX.out.1 HX.out.2 0
      have HT4 := Lib.hid hT4
      have HM4 := Lib.hid hm4
      clear hT4 hm4
      change Sem.run _ _ (World.drew w3) = _ at hr4
      go_upto_region 5 with fail
      go_region_held_law (fun W' => W'.cell? ⟨p, 0, none⟩ = some (.map (some b)) ∧ W'.cell? ⟨K, 0, none⟩ = some (.int .u32 d) ∧ W'.cell? ⟨K, 1, none⟩ = some (.int .i64 x))
        (first | assumption | exact ⟨hp, k0, k1⟩ | exact ⟨HT4.out.cell, turned_cell HM4.out k0, turned_cell HM4.out k1⟩)
        (fail)
      all_goals
        go_wp2_with fail
        go_ret
        have hc := Hc.out
        have hl' := HL.out
        unfold delCode at hc
        rw [His.out] at hc
        subst hc hl'
        exact ⟨rfl, HT4.out, grown_trans (grown_of_below (below_dN hB3.out 1) _) HM4.out.grown⟩
    | false =>
      go_wp2_with fail
      go_ret
      have hc := Hc.out
      have hl' := HL.out
      unfold delCode at hc
      rw [His.out] at hc
      rw [del_none His.out] at hl'
      subst hc hl'
      exact ⟨rfl, hT3.out, grown_of_below hB3.out _⟩

/-- An empty table. -/
theorem new_any (w : World) : Calls Try.prog 10 #[] w fun e w' => ∃ p b, e = .returned (.pointer (some ⟨p, 0, none⟩)) ∧ Tab w' p b [] ∧ w.heap.size ≤ p ∧ w.heap.size ≤ b ∧ Below w.heap.size w w' := by
  have hmm := @run_makeMap Try.prog
  go_enter Try.func10, Try.ntmps10
  go_wp2_with fail
  go_ret
  refine ⟨w.heap.size + 1, w.heap.size, rfl, ⟨?_, ⟨.map [], ?_, Reads.nil⟩, List.Pairwise.nil, (by simp), (by simp)⟩, (by omega), Nat.le_refl _, ((Below.refl _ w).alloc (Nat.le_refl _) _).alloc (by simp) _⟩
  · have h := heap_alloc_new (w.alloc (.map #[] 0)) (Obj.cells #[Value.map (some w.heap.size)] 58)
    rw [World.size_alloc] at h
    unfold World.cell?
    rw [h]
    rfl
  · exact (World.ownsMap_made w _ _ _).alloc _
end Go.Proofs.Ytimpellpfnmicaa
