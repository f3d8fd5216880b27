/-
  What is proved: from a contract of a law's function to the given row, for rows that list no variable, with the row's own reach at hand; arguments opened: addresses, times, and steps with their packets.
  Conditions: none of its own.
-/
import Derived.Test.YtfeipeninmclkaaRows
import Derived.Test.YtfeipeninmclkaaCaShown
import Derived.ProofKit
import Derived.Carry
import Derived.ChangeSlices
import Derived.OpenShut
import Derived.SizedLaws
import Derived.Deep.Slices
namespace Go.Proofs.Ytfeipeninmclkaa
open Go.ChangeShapes Go.WideShapes Go.RowKit Go.Deep

theorem ownGodebug : ownKnob Try.prog.godebug = none := by kernel_rfl
theorem laidOutAll : laidOutB Try.prog = true := by kernel_rfl
theorem typesSize : Try.prog.types.size = 129 := by kernel_rfl

section
variable {H : Type} {enc : TypeId × Value → H}
theorem trodAll_below {W W' : World} (hb : Below W.heap.size W W') (ts : List TypeId) : ∀ (vs : List Value) (ds : List (DataW H)) (ps : List MemPlace),
    (∀ t ∈ ts, Try.prog.readableRec t = true ∧ t < Try.prog.types.size) → DataW.TrodAll enc Try.prog W 0 (fun _ => true) true ts vs ds ps → (∀ x ∈ ps, x.block < W.heap.size) →
    DataW.TrodAll enc Try.prog W' 0 (fun b => decide (b < W.heap.size)) true ts vs ds ps := by
  induction ts with
  | nil =>
    intro vs ds ps _ h _
    obtain ⟨rfl, rfl, rfl⟩ := trodAll_nil h
    exact trodAll_mk0
  | cons t ts ih =>
    intro vs ds ps hr h hlt
    obtain ⟨v, vs, d, ds, p, q, rfl, rfl, rfl, h1, h2⟩ := trodAll_cons h
    have ht := hr t (List.mem_cons_self ..)
    exact ⟨p, q, (Below.trod laidOutAll ht.1 ht.2 h1 hb (fun x hx => hlt x (List.mem_append_left _ hx))),
      (ih vs ds q (fun u hu => hr u (List.mem_cons_of_mem _ hu)) h2 (fun x hx => hlt x (List.mem_append_right _ hx))), rfl⟩

/-- The row's 'post' out of the contract's. -/
theorem law_post {f : Func} {s : ChangeSpec} {W W' : World} {args : Array Value} {ds gs : List (DataW H)} {before : List MemPlace} (hv : s.vars = [])
    (hs : s.fn H (ds ++ gs) = { results := [.lit (.bool true)], args := ds }) (hrt : f.resultTypes = #[4])
    (hp : ∀ t ∈ f.params.toList, Try.prog.readableRec t = true ∧ t < Try.prog.types.size)
    (hW : DataW.Whole enc Try.prog f.params.toList s.vars false W args.toList ds gs before) (hb : Below W.heap.size W W') :
    s.post enc Try.prog f false true false false W args (.bool true) W' := by
  have hW' := hW
  have hlt : ∀ x ∈ before, x.block < W.heap.size := fun x hx => hW.lt x hx
  obtain ⟨p, q, hA, hV, rfl, hfz, hnd⟩ := hW
  rw [hv] at hV
  obtain ⟨rfl, rfl⟩ := trodVars_none hV
  refine ⟨_, _, _, [], p, [], hW', ?_, ?_, ?_, hb.frame _, fun h => by cases h⟩
  · rw [hs, hrt]
    exact trodAll_mk1 (shut_bool Try.underlying4 true)
  · rw [hs]
    exact trodAll_below hb _ _ _ _ hp hA (fun x hx => hlt x (List.mem_append_left _ hx))
  · rw [hs, hv]
    rfl
end


theorem I64.of {n : Int} (h : (Lit.int .i64 n).wf = true) : -9223372036854775808 ≤ n ∧ n ≤ 9223372036854775807 := by
  have hmin : IntKind.i64.min = -9223372036854775808 := by rfl
  have hmax : IntKind.i64.max = 9223372036854775807 := by rfl
  simp [Lit.wf, hmin, hmax] at h
  omega
theorem U64.of {n : Int} (h : (Lit.int .u64 n).wf = true) : U64 n := by
  have hmin : IntKind.u64.min = 0 := by rfl
  have hmax : IntKind.u64.max = 18446744073709551615 := by rfl
  simp [Lit.wf, hmin, hmax] at h
  unfold U64
  omega
theorem u8_wf {n : Int} (h : (Lit.int .u8 n).wf = true) : ∃ b : UInt8, n = (b.toNat : Int) := by
  have hmin : IntKind.u8.min = 0 := by rfl
  have hmax : IntKind.u8.max = 255 := by rfl
  simp [Lit.wf, hmin, hmax] at h
  refine ⟨UInt8.ofNat n.toNat, ?_⟩
  have : (UInt8.ofNat n.toNat).toNat = n.toNat := by simp; omega
  omega
def U8 (x : Int) : Prop := 0 ≤ x ∧ x < 256
theorem U8.of {n : Int} (h : (Lit.int .u8 n).wf = true) : U8 n := by
  have hmin : IntKind.u8.min = 0 := by rfl
  have hmax : IntKind.u8.max = 255 := by rfl
  simp [Lit.wf, hmin, hmax] at h
  unfold U8
  omega
theorem bytes_of_ints : ∀ zs : List Int, (∀ n ∈ zs, (Lit.int .u8 n).wf = true) → ∃ bs : List UInt8, zs = bs.map fun b => (b.toNat : Int)
  | [], _ => ⟨[], rfl⟩
  | z :: zs, h => by
    obtain ⟨a, rfl⟩ := u8_wf (h z (List.mem_cons_self ..))
    obtain ⟨bs, rfl⟩ := bytes_of_ints zs (fun n hn => h n (List.mem_cons_of_mem _ hn))
    exact ⟨a :: bs, rfl⟩

/-- A step of a law. -/
structure Stp where
  k : Int
  ip : Int
  m : Mc
  p : List UInt8
  by_ : Int
def Stp.row (s : Stp) (v : Value) : List Value := [.int .i64 s.k, .int .u32 s.ip, .int .u8 s.m.a, .int .u8 s.m.b, .int .u8 s.m.c, .int .u8 s.m.d, .int .u8 s.m.e, .int .u8 s.m.f, v, .int .u8 s.by_]
structure Stp.In (s : Stp) : Prop where
  k : -9223372036854775808 ≤ s.k ∧ s.k ≤ 9223372036854775807
  ip : U32 s.ip
  few : s.p.length ≤ 140737488355328
  by_ : U8 s.by_
/-- The steps that a slice value holds. -/
def StepsAt (w : World) (A : Option Addr) (M : Nat) : Prop :=
  ∀ k, k < M → ∃ (g o : Nat) (s : Stp) (v : Value), A = some ⟨g, o, none⟩ ∧ s.In ∧ Rd w v s.p ∧ ∀ j u, (s.row v)[j]? = some u → w.cell? ⟨g, o + k * 10 + j, none⟩ = some u

section
variable {H : Type} {enc : TypeId × Value → H} {W : World}
set_option maxRecDepth 100000 in
/-- Six cells that are read as an address. -/
theorem mac_of_trod {fuel : Nat} {x : DataW H × List MemPlace} {c0 c1 c2 c3 c4 c5 : Value} (h : DataW.trod enc Try.prog W 0 (fun _ => true) true fuel 34 [c0, c1, c2, c3, c4, c5] = some x) :
    ∃ m : Mc, c0 = .int .u8 m.a ∧ c1 = .int .u8 m.b ∧ c2 = .int .u8 m.c ∧ c3 = .int .u8 m.d ∧ c4 = .int .u8 m.e ∧ c5 = .int .u8 m.f := by
  obtain ⟨xs, m, rfl, rfl, hc, hl, hf⟩ := DataW.trod_array Try.underlying34 h
  rw [show Try.prog.cellsOf 5 = 1 by kernel_rfl] at hf
  match xs, hl with
  | [y0, y1, y2, y3, y4, y5], _ =>
      obtain ⟨n0, e0, _, _⟩ := DataW.trod_int Try.underlying5 (show DataW.trod enc Try.prog W 0 (fun _ => true) true m 5 [c0] = some y0 from hf 0 (by omega))
      obtain ⟨n1, e1, _, _⟩ := DataW.trod_int Try.underlying5 (show DataW.trod enc Try.prog W 0 (fun _ => true) true m 5 [c1] = some y1 from hf 1 (by omega))
      obtain ⟨n2, e2, _, _⟩ := DataW.trod_int Try.underlying5 (show DataW.trod enc Try.prog W 0 (fun _ => true) true m 5 [c2] = some y2 from hf 2 (by omega))
      obtain ⟨n3, e3, _, _⟩ := DataW.trod_int Try.underlying5 (show DataW.trod enc Try.prog W 0 (fun _ => true) true m 5 [c3] = some y3 from hf 3 (by omega))
      obtain ⟨n4, e4, _, _⟩ := DataW.trod_int Try.underlying5 (show DataW.trod enc Try.prog W 0 (fun _ => true) true m 5 [c4] = some y4 from hf 4 (by omega))
      obtain ⟨n5, e5, _, _⟩ := DataW.trod_int Try.underlying5 (show DataW.trod enc Try.prog W 0 (fun _ => true) true m 5 [c5] = some y5 from hf 5 (by omega))
      exact ⟨⟨n0, n1, n2, n3, n4, n5⟩, by simpa using e0, by simpa using e1, by simpa using e2, by simpa using e3, by simpa using e4, by simpa using e5⟩
theorem okWide_array {P : Program} {w : World} {r : Reach} {base : Nat} {t e : TypeId} {n : Nat} {v : Value} (ht : P.underlying t = some (.array n e)) (h : Value.okWide P w r base t v) : ∃ cs, v = .agg cs ∧ cs.size = P.cellsOf t := by
  simp only [Value.okWide, ht] at h
  obtain ⟨cs, h1, h2, _⟩ := h
  exact ⟨cs, h1, h2⟩
set_option maxRecDepth 100000 in
theorem open_mac {base : Nat} {v : Value} {d : DataW H} {ps : List MemPlace} (hv : Value.okWide Try.prog W .any base 34 v) (h : DataW.Trod enc Try.prog W 0 (fun _ => true) true 34 v d ps) :
    ∃ m : Mc, v = m.val := by
  obtain ⟨cs, rfl, hz⟩ := okWide_array Try.underlying34 hv
  obtain ⟨fuel, hf⟩ := h
  rw [show Try.prog.cellsOf 34 = 6 by kernel_rfl] at hz
  obtain ⟨l⟩ := cs
  have hz' : l.length = 6 := hz
  match l, hz' with
  | [c0, c1, c2, c3, c4, c5], _ =>
    obtain ⟨m, rfl, rfl, rfl, rfl, rfl, rfl⟩ := mac_of_trod hf
    exact ⟨m, rfl⟩
/-- The slice of bytes in a cell, and how many they are. -/
theorem open_bytes_in {fuel : Nat} {v : Value} {x : DataW H × List MemPlace} (h : DataW.trod enc Try.prog W 0 (fun _ => true) true fuel 35 [v] = some x) :
    ∃ bs : List UInt8, Rd W v bs ∧ (bs ≠ [] → ∃ el sp, x.1 = .slice el sp ∧ bs.length ≤ el.length) := by
  rcases open_slice Try.underlying35 h with ⟨hcs, _⟩ | ⟨a, len, cap, m, n, D, Pl, hcs, _, hle, hmax, hm, rfl, hall⟩
  · obtain rfl : v = .slice none 0 0 := by simpa using hcs
    exact ⟨[], Rd.nil W, fun h => absurd rfl h⟩
  · obtain rfl : v = .slice (some a) len cap := by simpa using hcs
    have each : ∀ i, i < len → ∃ b : UInt8, W.cell? (a.add i) = some (B8 b) := fun i hi => by
      obtain ⟨cs, hc, ht⟩ := hall i (by rw [hm]; simp only [if_true]; omega)
      rw [show Try.prog.cellsOf 5 = 1 by kernel_rfl] at hc
      obtain ⟨_, hl, hat⟩ := World.cells?_some hc
      match cs, hl with
      | [c0], _ =>
        obtain ⟨z, e, _, hw⟩ := DataW.trod_int Try.underlying5 ht
        obtain ⟨bs, hb⟩ := bytes_of_ints [z] (by simpa using hw)
        match bs, hb with
        | [b], hb =>
          have h0 := hat 0 (by omega)
          obtain rfl : z = (b.toNat : Int) := by simpa using hb
          obtain rfl : c0 = .int .u8 (b.toNat : Int) := by simpa using e
          refine ⟨b, ?_⟩
          rw [show i = i * 1 + 0 by omega]
          have e2 : (a.add (i * 1)).add 0 = a.add (i * 1 + 0) := by simp [Addr.add]
          rw [← e2]
          simpa [B8] using h0
        | [], hb => simp at hb
        | _ :: _ :: _, hb => simp at hb
    have hex : ∃ f : Nat → UInt8, ∀ i, i < len → W.cell? (a.add i) = some (B8 (f i)) :=
      ⟨fun i => if hi : i < len then (each i hi).choose else 0, fun i hi => by simp only [hi, dif_pos]; exact (each i hi).choose_spec⟩
    obtain ⟨f, hf⟩ := hex
    refine ⟨(List.range len).map f, ⟨some a, cap, by simp, by simpa using hle, fun h0 => ?_⟩, fun _ => ⟨_, _, rfl, by simp⟩⟩
    have h0' : 0 < len := by simpa using h0
    obtain ⟨b, off, spot⟩ := a
    have hs := World.cell?_spot (hf 0 h0')
    have hs2 : spot = none := by simpa [Addr.add] using hs
    subst hs2
    refine ⟨b, off, rfl, fun i u hu => ?_⟩
    have hi : i < len := by have := (List.getElem?_eq_some_iff.1 hu).1; simpa using this
    have h1 := hf i hi
    rw [Addr.add_lit] at h1
    rw [List.getElem?_map, List.getElem?_range hi] at hu
    simp only [Option.map_some, Option.some.injEq] at hu
    rw [← hu]
    exact h1
theorem weightsAll_mem {P : Program} {e : TypeId} : ∀ {l : List (DataW H)} {d : DataW H}, d ∈ l → ∀ n ∈ d.weights P e, n ∈ DataW.weightsAll P e l
  | d' :: r, d, hd, n, hn => by
    simp only [DataW.weightsAll, List.mem_append]
    rcases List.mem_cons.1 hd with rfl | h
    · exact Or.inl hn
    · exact Or.inr (weightsAll_mem h n hn)
theorem reach_eq : reachBytes = 140737488351232 := rfl
set_option maxRecDepth 100000 in
/-- Ten cells that are read as a step; and its weights count its packet's bytes. -/
theorem step_of_trod {fuel : Nat} {c0 c1 c2 c3 c4 c5 c6 c7 c8 c9 : Value} {x : DataW H × List MemPlace} (ht : DataW.trod enc Try.prog W 0 (fun _ => true) true fuel 37 [c0, c1, c2, c3, c4, c5, c6, c7, c8, c9] = some x)
    (hsz : ∀ n ∈ x.1.weights Try.prog 37, n ≤ reachBytes) :
    ∃ (s : Stp) (v : Value), s.In ∧ Rd W v s.p ∧ [c0, c1, c2, c3, c4, c5, c6, c7, c8, c9] = s.row v := by
  obtain ⟨ys, n', _, hx, _, hyl, hfld⟩ := DataW.trod_struct Try.underlying37 ht
  have hy : ys.length = 5 := by rw [hyl]; rfl
  match ys, hy with
  | [y0, y1, y2, y3, y4], _ =>
    have f0 : DataW.trod enc Try.prog W 0 (fun _ => true) true n' 3 [c0] = some y0 := by
      have h : DataW.trod enc Try.prog W 0 (fun _ => true) true n' 3 (List.take (Try.prog.cellsOf 3) (List.drop 0 [c0, c1, c2, c3, c4, c5, c6, c7, c8, c9])) = some y0 := hfld 0 _ rfl
      rw [show Try.prog.cellsOf 3 = 1 by kernel_rfl] at h
      exact h
    have f1 : DataW.trod enc Try.prog W 0 (fun _ => true) true n' 32 [c1] = some y1 := by
      have h : DataW.trod enc Try.prog W 0 (fun _ => true) true n' 32 (List.take (Try.prog.cellsOf 32) (List.drop 1 [c0, c1, c2, c3, c4, c5, c6, c7, c8, c9])) = some y1 := hfld 1 _ rfl
      rw [show Try.prog.cellsOf 32 = 1 by kernel_rfl] at h
      exact h
    have f2 : DataW.trod enc Try.prog W 0 (fun _ => true) true n' 34 [c2, c3, c4, c5, c6, c7] = some y2 := by
      have h : DataW.trod enc Try.prog W 0 (fun _ => true) true n' 34 (List.take (Try.prog.cellsOf 34) (List.drop 2 [c0, c1, c2, c3, c4, c5, c6, c7, c8, c9])) = some y2 := hfld 2 _ rfl
      rw [show Try.prog.cellsOf 34 = 6 by kernel_rfl] at h
      exact h
    have f3 : DataW.trod enc Try.prog W 0 (fun _ => true) true n' 35 [c8] = some y3 := by
      have h : DataW.trod enc Try.prog W 0 (fun _ => true) true n' 35 (List.take (Try.prog.cellsOf 35) (List.drop 8 [c0, c1, c2, c3, c4, c5, c6, c7, c8, c9])) = some y3 := hfld 3 _ rfl
      rw [show Try.prog.cellsOf 35 = 1 by kernel_rfl] at h
      exact h
    have f4 : DataW.trod enc Try.prog W 0 (fun _ => true) true n' 5 [c9] = some y4 := by
      have h : DataW.trod enc Try.prog W 0 (fun _ => true) true n' 5 (List.take (Try.prog.cellsOf 5) (List.drop 9 [c0, c1, c2, c3, c4, c5, c6, c7, c8, c9])) = some y4 := hfld 4 _ rfl
      rw [show Try.prog.cellsOf 5 = 1 by kernel_rfl] at h
      exact h
    obtain ⟨z0, e0, _, w0⟩ := DataW.trod_int Try.underlying3 f0
    obtain ⟨z1, e1, _, w1⟩ := DataW.trod_int Try.underlying32 f1
    obtain ⟨m, rfl, rfl, rfl, rfl, rfl, rfl⟩ := mac_of_trod f2
    obtain ⟨bs, hrd, hbs⟩ := open_bytes_in f3
    obtain ⟨z4, e4, _, w4⟩ := DataW.trod_int Try.underlying5 f4
    obtain rfl : c0 = .int .i64 z0 := by simpa using e0
    obtain rfl : c1 = .int .u32 z1 := by simpa using e1
    obtain rfl : c9 = .int .u8 z4 := by simpa using e4
    refine ⟨⟨z0, z1, m, bs, z4⟩, c8, ⟨I64.of w0, U32.of w1, ?_, U8.of w4⟩, hrd, rfl⟩
    by_cases hne : bs = []
    · rw [hne]; simp
    · obtain ⟨el, sp, he, hl⟩ := hbs hne
      have hw : (el.length + sp.length) * Try.prog.bytesOf 5 ≤ reachBytes := by
        refine hsz _ ?_
        rw [hx]
        simp only [DataW.weights, Try.underlying37]
        refine DataW.weights_mem_each (j := 3) (t := 35) (d := y3.1) rfl rfl _ ?_
        rw [he]
        simp only [DataW.weights, Try.underlying35]
        exact List.mem_cons_self ..
      rw [show Try.prog.bytesOf 5 = 1 by kernel_rfl, reach_eq] at hw
      show bs.length ≤ _
      omega
set_option maxRecDepth 100000 in
theorem open_steps {base : Nat} {v : Value} {d : DataW H} {ps : List MemPlace} (hv : Value.okWide Try.prog W .any base 23 v) (h : DataW.Trod enc Try.prog W 0 (fun _ => true) true 23 v d ps)
    (hsz : ∀ n ∈ d.weights Try.prog 23, n ≤ reachBytes) :
    ∃ (A : Option Addr) (M c : Nat), v = .slice A M c ∧ M ≤ c ∧ c ≤ 9223372036854775807 ∧ StepsAt W A M := by
  obtain ⟨a0, len, cap, rfl⟩ := okWide_slice Try.underlying23 hv
  obtain ⟨fuel, hf⟩ := h
  have hC : Try.prog.cellsOf 37 = 10 := by kernel_rfl
  rcases open_slice Try.underlying23 hf with ⟨hcs, _⟩ | ⟨a, len', cap', m, n, D, Pl, hcs, _, hle, hmax, hm, hx, hall⟩
  · simp [Value.cells] at hcs
    obtain ⟨rfl, rfl, rfl⟩ := hcs
    exact ⟨none, 0, 0, rfl, by omega, by omega, fun k hk => absurd hk (by omega)⟩
  · simp [Value.cells] at hcs
    obtain ⟨rfl, rfl, rfl⟩ := hcs
    simp only [if_true] at hm
    refine ⟨some a, len, cap, rfl, hle, by simp only [maxLen] at hmax; omega, fun k hk => ?_⟩
    have hspot : ∃ b off, a = ⟨b, off, none⟩ := by
      obtain ⟨cs0, hc0, _⟩ := hall 0 (by omega)
      rw [hC] at hc0
      obtain ⟨_, hl0, hat0⟩ := World.cells?_some hc0
      have h5 := hat0 0 (by omega)
      have h6 : cs0[0]? = some (cs0[0]'(by omega)) := List.getElem?_eq_getElem (by omega)
      rw [h6] at h5
      have h7 := World.cell?_spot h5
      obtain ⟨b, off, spot⟩ := a
      refine ⟨b, off, ?_⟩
      have h8 : spot = none := by simpa [Addr.add] using h7
      rw [h8]
    obtain ⟨b, off, rfl⟩ := hspot
    obtain ⟨cs, hc, ht⟩ := hall k (by omega)
    rw [hC] at hc
    obtain ⟨_, hl, hat⟩ := World.cells?_some hc
    have hd : d = DataW.slice ((List.range len).map D) ((List.range (m - len)).map fun j => D (len + j)) := congrArg Prod.fst hx
    have hk2 : ∀ n ∈ (D k).weights Try.prog 37, n ≤ reachBytes := fun n hn => by
      refine hsz n ?_
      rw [hd]
      simp only [DataW.weights, Try.underlying23, List.mem_cons, List.mem_append]
      exact Or.inr (Or.inl (weightsAll_mem (List.mem_map.2 ⟨k, List.mem_range.2 hk, rfl⟩) n hn))
    match cs, hl with
    | [c0, c1, c2, c3, c4, c5, c6, c7, c8, c9], _ =>
      obtain ⟨s, v, hs, hrd, e⟩ := step_of_trod ht hk2
      refine ⟨b, off, s, v, rfl, hs, hrd, fun j u hu => ?_⟩
      rw [← e] at hu
      have hj : j < 10 := (List.getElem?_eq_some_iff.1 hu).1
      have a0 := hat j hj
      simp only [Addr.add_lit] at a0
      rw [← hu]
      simpa using a0
end
theorem StepsAt.below {w w' : World} {A : Option Addr} {M : Nat} (h : StepsAt w A M) (hb : Below w.heap.size w w') : StepsAt w' A M := fun k hk => by
  obtain ⟨g, o, s, v, h1, h2, h3, h4⟩ := h k hk
  exact ⟨g, o, s, v, h1, h2, h3.below hb, fun j u hu => (hb.cell (World.block_lt_of_cell? w _ (h4 j u hu))).trans (h4 j u hu)⟩
end Go.Proofs.Ytfeipeninmclkaa
