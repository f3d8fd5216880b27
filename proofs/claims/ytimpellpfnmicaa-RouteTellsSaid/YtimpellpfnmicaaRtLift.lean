/-
  What is proved: from a contract of a law's function ('it returns true, and all older memory is as it was') to the given row, for rows that list no variable; arguments opened: addresses, routes, steps.
  Conditions: none of its own.
-/
import Derived.Test.YtimpellpfnmicaaRows
import Derived.Test.YtimpellpfnmicaaRtRight
import Derived.ProofKit
import Derived.Carry
import Derived.ChangeSlices
import Derived.OpenShut
import Derived.Deep.Slices
namespace Go.Proofs.Ytimpellpfnmicaa
open Go.ChangeShapes Go.WideShapes Go.RowKit Go.Deep

theorem ownGodebug : ownKnob Try.prog.godebug = none := by kernel_rfl
theorem laidOutAll : laidOutB Try.prog = true := by kernel_rfl
theorem typesSize : Try.prog.types.size = 117 := by kernel_rfl

section
variable {H : Type} {enc : TypeId × Value → H}
theorem trodAll_below {W W' : World} (hb : Below W.heap.size W W') (ts : List TypeId) : ∀ (vs : List Value) (ds : List (DataW H)) (ps : List MemPlace),
    (∀ t ∈ ts, Try.prog.readableRec t = true ∧ t < Try.prog.types.size) → DataW.TrodAll enc Try.prog W 0 (fun _ => true) true ts vs ds ps → (∀ x ∈ ps, x.block < W.heap.size) →
    DataW.TrodAll enc Try.prog W' 0 (fun b => decide (b < W.heap.size)) true ts vs ds ps := by
  induction ts with
  | nil =>
    intro vs ds ps _ h _
    obtain ⟨rfl, rfl, rfl⟩ := trodAll_nil h
    exact trodAll_mk0
  | cons t ts ih =>
    intro vs ds ps hr h hlt
    obtain ⟨v, vs, d, ds, p, q, rfl, rfl, rfl, h1, h2⟩ := trodAll_cons h
    have ht := hr t (List.mem_cons_self ..)
    exact ⟨p, q, (Below.trod laidOutAll ht.1 ht.2 h1 hb (fun x hx => hlt x (List.mem_append_left _ hx))),
      (ih vs ds q (fun u hu => hr u (List.mem_cons_of_mem _ hu)) h2 (fun x hx => hlt x (List.mem_append_right _ hx))), rfl⟩

/-- The row's 'post' out of the contract's. -/
theorem law_post {f : Func} {s : ChangeSpec} {W W' : World} {args : Array Value} {ds gs : List (DataW H)} {before : List MemPlace} (hv : s.vars = [])
    (hs : s.fn H (ds ++ gs) = { results := [.lit (.bool true)], args := ds }) (hrt : f.resultTypes = #[4])
    (hp : ∀ t ∈ f.params.toList, Try.prog.readableRec t = true ∧ t < Try.prog.types.size)
    (hW : DataW.Whole enc Try.prog f.params.toList s.vars false W args.toList ds gs before) (hb : Below W.heap.size W W') :
    s.post enc Try.prog f false true false false W args (.bool true) W' := by
  have hW' := hW
  have hlt : ∀ x ∈ before, x.block < W.heap.size := fun x hx => hW.lt x hx
  obtain ⟨p, q, hA, hV, rfl, hfz, hnd⟩ := hW
  rw [hv] at hV
  obtain ⟨rfl, rfl⟩ := trodVars_none hV
  refine ⟨_, _, _, [], p, [], hW', ?_, ?_, ?_, hb.frame _, fun h => by cases h⟩
  · rw [hs, hrt]
    exact trodAll_mk1 (shut_bool Try.underlying4 true)
  · rw [hs]
    exact trodAll_below hb _ _ _ _ hp hA (fun x hx => hlt x (List.mem_append_left _ hx))
  · rw [hs, hv]
    rfl
end

/-- The routes that a slice value holds. -/
def RtsAt (w : World) (A : Option Addr) (M : Nat) : Prop :=
  ∀ k, k < M → ∃ (g o : Nat) (r : Rt), A = some ⟨g, o, none⟩ ∧ r.In ∧ w.cell? ⟨g, o + k * 4, none⟩ = some (.int .u32 r.d) ∧ w.cell? ⟨g, o + k * 4 + 1, none⟩ = some (.int .i64 r.b) ∧ w.cell? ⟨g, o + k * 4 + 2, none⟩ = some (.int .u32 r.v) ∧ w.cell? ⟨g, o + k * 4 + 3, none⟩ = some (.int .i64 r.o)
/-- A step of a law. -/
structure Stp where
  k : Int
  r : Rt
  x : Int
structure Stp.In (s : Stp) : Prop where
  k : I64 s.k
  r : s.r.In
  x : U32 s.x
def StepsAt (w : World) (A : Option Addr) (M : Nat) : Prop :=
  ∀ k, k < M → ∃ (g o : Nat) (s : Stp), A = some ⟨g, o, none⟩ ∧ s.In ∧ w.cell? ⟨g, o + k * 6, none⟩ = some (.int .i64 s.k) ∧ w.cell? ⟨g, o + k * 6 + 1, none⟩ = some (.int .u32 s.r.d) ∧ w.cell? ⟨g, o + k * 6 + 2, none⟩ = some (.int .i64 s.r.b) ∧ w.cell? ⟨g, o + k * 6 + 3, none⟩ = some (.int .u32 s.r.v) ∧ w.cell? ⟨g, o + k * 6 + 4, none⟩ = some (.int .i64 s.r.o) ∧ w.cell? ⟨g, o + k * 6 + 5, none⟩ = some (.int .u32 s.x)

section
variable {H : Type} {enc : TypeId × Value → H} {W : World}
theorem rt_cellsOf : Try.prog.cellsOf 33 = 4 := by kernel_rfl
set_option maxRecDepth 100000 in
theorem rt_of_trod {fuel : Nat} {c0 c1 c2 c3 : Value} {x : DataW H × List MemPlace} (hf : DataW.trod enc Try.prog W 0 (fun _ => true) true fuel 33 [c0, c1, c2, c3] = some x) :
    ∃ r : Rt, r.In ∧ c0 = .int .u32 r.d ∧ c1 = .int .i64 r.b ∧ c2 = .int .u32 r.v ∧ c3 = .int .i64 r.o := by
  obtain ⟨ys, n, _, _, _, hyl, hfld⟩ := DataW.trod_struct Try.underlying33 hf
  have k0 : Try.prog.cellsOf 31 = 1 := by kernel_rfl
  have k1 : Try.prog.cellsOf 3 = 1 := by kernel_rfl
  have hy : ys.length = 4 := by rw [hyl]; rfl
  match ys, hy with
  | [y0, y1, y2, y3], _ =>
    have f0 : DataW.trod enc Try.prog W 0 (fun _ => true) true n 31 [c0] = some y0 := by
      have h : DataW.trod enc Try.prog W 0 (fun _ => true) true n 31 (List.take (Try.prog.cellsOf 31) (List.drop 0 [c0, c1, c2, c3])) = some y0 := hfld 0 _ rfl
      rw [k0] at h
      exact h
    have f1 : DataW.trod enc Try.prog W 0 (fun _ => true) true n 3 [c1] = some y1 := by
      have h : DataW.trod enc Try.prog W 0 (fun _ => true) true n 3 (List.take (Try.prog.cellsOf 3) (List.drop 1 [c0, c1, c2, c3])) = some y1 := hfld 1 _ rfl
      rw [k1] at h
      exact h
    have f2 : DataW.trod enc Try.prog W 0 (fun _ => true) true n 31 [c2] = some y2 := by
      have h : DataW.trod enc Try.prog W 0 (fun _ => true) true n 31 (List.take (Try.prog.cellsOf 31) (List.drop 2 [c0, c1, c2, c3])) = some y2 := hfld 2 _ rfl
      rw [k0] at h
      exact h
    have f3 : DataW.trod enc Try.prog W 0 (fun _ => true) true n 3 [c3] = some y3 := by
      have h : DataW.trod enc Try.prog W 0 (fun _ => true) true n 3 (List.take (Try.prog.cellsOf 3) (List.drop 3 [c0, c1, c2, c3])) = some y3 := hfld 3 _ rfl
      rw [k1] at h
      exact h
    obtain ⟨n0, e0, _, w0⟩ := DataW.trod_int Try.underlying31 f0
    obtain ⟨n1, e1, _, w1⟩ := DataW.trod_int Try.underlying3 f1
    obtain ⟨n2, e2, _, w2⟩ := DataW.trod_int Try.underlying31 f2
    obtain ⟨n3, e3, _, w3⟩ := DataW.trod_int Try.underlying3 f3
    exact ⟨⟨n0, n1, n2, n3⟩, ⟨U32.of w0, I64.of w1, U32.of w2, I64.of w3⟩, by simpa using e0, by simpa using e1, by simpa using e2, by simpa using e3⟩
set_option maxRecDepth 100000 in
theorem open_rts {base : Nat} {v : Value} {d : DataW H} {ps : List MemPlace} (hv : Value.okWide Try.prog W .any base 46 v) (h : DataW.Trod enc Try.prog W 0 (fun _ => true) true 46 v d ps) :
    ∃ (A : Option Addr) (M c : Nat), v = .slice A M c ∧ M ≤ c ∧ c ≤ 9223372036854775807 ∧ RtsAt W A M := by
  obtain ⟨a0, len, cap, rfl⟩ := okWide_slice Try.underlying46 hv
  obtain ⟨fuel, hf⟩ := h
  rcases open_slice Try.underlying46 hf with ⟨hcs, _⟩ | ⟨a, len', cap', m, n, D, Pl, hcs, _, hle, hmax, hm, _, hall⟩
  · simp [Value.cells] at hcs
    obtain ⟨rfl, rfl, rfl⟩ := hcs
    exact ⟨none, 0, 0, rfl, by omega, by omega, fun k hk => absurd hk (by omega)⟩
  · simp [Value.cells] at hcs
    obtain ⟨rfl, rfl, rfl⟩ := hcs
    simp only [if_true] at hm
    refine ⟨some a, len, cap, rfl, hle, by simp only [maxLen] at hmax; omega, fun k hk => ?_⟩
    have hspot : ∃ b off, a = ⟨b, off, none⟩ := by
      obtain ⟨cs0, hc0, _⟩ := hall 0 (by omega)
      rw [rt_cellsOf] at hc0
      obtain ⟨_, hl0, hat0⟩ := World.cells?_some hc0
      have h5 := hat0 0 (by omega)
      have h6 : cs0[0]? = some (cs0[0]'(by omega)) := List.getElem?_eq_getElem (by omega)
      rw [h6] at h5
      have h7 := World.cell?_spot h5
      obtain ⟨b, off, spot⟩ := a
      refine ⟨b, off, ?_⟩
      have h8 : spot = none := by simpa [Addr.add] using h7
      rw [h8]
    obtain ⟨b, off, rfl⟩ := hspot
    obtain ⟨cs, hc, ht⟩ := hall k (by omega)
    rw [rt_cellsOf] at hc
    obtain ⟨_, hl, hat⟩ := World.cells?_some hc
    match cs, hl with
    | [c0, c1, c2, c3], _ =>
      obtain ⟨r, hr, rfl, rfl, rfl, rfl⟩ := rt_of_trod ht
      have a0 := hat 0 (by omega)
      have a1 := hat 1 (by omega)
      have a2 := hat 2 (by omega)
      have a3 := hat 3 (by omega)
      simp only [Addr.add_lit] at a0 a1 a2 a3
      exact ⟨b, off, r, rfl, hr, by simpa using a0, by simpa using a1, by simpa using a2, by simpa using a3⟩
theorem step_cellsOf : Try.prog.cellsOf 35 = 6 := by kernel_rfl
set_option maxRecDepth 100000 in
theorem open_steps {base : Nat} {v : Value} {d : DataW H} {ps : List MemPlace} (hv : Value.okWide Try.prog W .any base 22 v) (h : DataW.Trod enc Try.prog W 0 (fun _ => true) true 22 v d ps) :
    ∃ (A : Option Addr) (M c : Nat), v = .slice A M c ∧ M ≤ c ∧ c ≤ 9223372036854775807 ∧ StepsAt W A M := by
  obtain ⟨a0, len, cap, rfl⟩ := okWide_slice Try.underlying22 hv
  obtain ⟨fuel, hf⟩ := h
  rcases open_slice Try.underlying22 hf with ⟨hcs, _⟩ | ⟨a, len', cap', m, n, D, Pl, hcs, _, hle, hmax, hm, _, hall⟩
  · simp [Value.cells] at hcs
    obtain ⟨rfl, rfl, rfl⟩ := hcs
    exact ⟨none, 0, 0, rfl, by omega, by omega, fun k hk => absurd hk (by omega)⟩
  · simp [Value.cells] at hcs
    obtain ⟨rfl, rfl, rfl⟩ := hcs
    simp only [if_true] at hm
    refine ⟨some a, len, cap, rfl, hle, by simp only [maxLen] at hmax; omega, fun k hk => ?_⟩
    have hspot : ∃ b off, a = ⟨b, off, none⟩ := by
      obtain ⟨cs0, hc0, _⟩ := hall 0 (by omega)
      rw [step_cellsOf] at hc0
      obtain ⟨_, hl0, hat0⟩ := World.cells?_some hc0
      have h5 := hat0 0 (by omega)
      have h6 : cs0[0]? = some (cs0[0]'(by omega)) := List.getElem?_eq_getElem (by omega)
      rw [h6] at h5
      have h7 := World.cell?_spot h5
      obtain ⟨b, off, spot⟩ := a
      refine ⟨b, off, ?_⟩
      have h8 : spot = none := by simpa [Addr.add] using h7
      rw [h8]
    obtain ⟨b, off, rfl⟩ := hspot
    obtain ⟨cs, hc, ht⟩ := hall k (by omega)
    rw [step_cellsOf] at hc
    obtain ⟨_, hl, hat⟩ := World.cells?_some hc
    obtain ⟨ys, n', _, _, _, hyl, hfld⟩ := DataW.trod_struct Try.underlying35 ht
    have k0 : Try.prog.cellsOf 31 = 1 := by kernel_rfl
    have k1 : Try.prog.cellsOf 3 = 1 := by kernel_rfl
    have hy : ys.length = 3 := by rw [hyl]; rfl
    match cs, hl with
    | [c0, c1, c2, c3, c4, c5], _ =>
      match ys, hy with
      | [y0, y1, y2], _ =>
        have f0 : DataW.trod enc Try.prog W 0 (fun _ => true) true n' 3 [c0] = some y0 := by
          have h : DataW.trod enc Try.prog W 0 (fun _ => true) true n' 3 (List.take (Try.prog.cellsOf 3) (List.drop 0 [c0, c1, c2, c3, c4, c5])) = some y0 := hfld 0 _ rfl
          rw [k1] at h
          exact h
        have f1 : DataW.trod enc Try.prog W 0 (fun _ => true) true n' 33 [c1, c2, c3, c4] = some y1 := by
          have h : DataW.trod enc Try.prog W 0 (fun _ => true) true n' 33 (List.take (Try.prog.cellsOf 33) (List.drop 1 [c0, c1, c2, c3, c4, c5])) = some y1 := hfld 1 _ rfl
          rw [rt_cellsOf] at h
          exact h
        have f2 : DataW.trod enc Try.prog W 0 (fun _ => true) true n' 31 [c5] = some y2 := by
          have h : DataW.trod enc Try.prog W 0 (fun _ => true) true n' 31 (List.take (Try.prog.cellsOf 31) (List.drop 5 [c0, c1, c2, c3, c4, c5])) = some y2 := hfld 2 _ rfl
          rw [k0] at h
          exact h
        obtain ⟨n0, e0, _, w0⟩ := DataW.trod_int Try.underlying3 f0
        obtain ⟨r, hr, rfl, rfl, rfl, rfl⟩ := rt_of_trod f1
        obtain ⟨n2, e2, _, w2⟩ := DataW.trod_int Try.underlying31 f2
        have e0' : c0 = .int .i64 n0 := by simpa using e0
        have e2' : c5 = .int .u32 n2 := by simpa using e2
        subst e0' e2'
        have a0 := hat 0 (by omega)
        have a1 := hat 1 (by omega)
        have a2 := hat 2 (by omega)
        have a3 := hat 3 (by omega)
        have a4 := hat 4 (by omega)
        have a5 := hat 5 (by omega)
        simp only [Addr.add_lit] at a0 a1 a2 a3 a4 a5
        exact ⟨b, off, ⟨n0, r, n2⟩, rfl, ⟨I64.of w0, hr, U32.of w2⟩, by simpa using a0, by simpa using a1, by simpa using a2, by simpa using a3, by simpa using a4, by simpa using a5⟩
end
end Go.Proofs.Ytimpellpfnmicaa
