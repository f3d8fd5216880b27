/-
  What is proved: an argument that is a slice of options, opened.
  Conditions: none of its own.
-/
import Derived.Test.YtnjohgfhagoppaaDoorKxLift
import Derived.Test.YtnjohgfhagoppaaDoorGvMem
import Derived.Deep.Slices
namespace Go.Proofs.YtnjohgfhagoppaaDoor
open Go.ChangeShapes Go.WideShapes Go.RowKit Go.Deep

theorem u16_wf {n : Int} (h : (Lit.int .u16 n).wf = true) : ∃ a : Nat, n = (a : Int) ∧ a < 65536 := by
  have hmin : IntKind.u16.min = 0 := by rfl
  have hmax : IntKind.u16.max = 65535 := by rfl
  simp [Lit.wf, hmin, hmax] at h
  exact ⟨n.toNat, by omega, by omega⟩
theorem list_of_each {P : Nat → Op → Prop} : ∀ (M : Nat), (∀ k, k < M → ∃ x, P k x) → ∃ l : List Op, l.length = M ∧ ∀ k x, l[k]? = some x → P k x
  | 0, _ => ⟨[], rfl, fun k x h => by simp at h⟩
  | M + 1, h => by
    obtain ⟨l, hl, hp⟩ := list_of_each M (fun k hk => h k (by omega))
    obtain ⟨x, hx⟩ := h M (by omega)
    refine ⟨l ++ [x], by rw [List.length_append, hl]; rfl, fun k y hk => ?_⟩
    by_cases hkM : k < M
    · rw [List.getElem?_append_left (by omega)] at hk
      exact hp k y hk
    · have hlt := (List.getElem?_eq_some_iff.1 hk).1
      rw [List.length_append, List.length_singleton] at hlt
      obtain rfl : k = M := by omega
      rw [List.getElem?_append_right (by omega), hl, Nat.sub_self] at hk
      obtain rfl : x = y := by simpa using hk
      exact hx
section
variable {H : Type} {enc : TypeId × Value → H} {W : World}
set_option maxRecDepth 100000 in
theorem open_bytes_in {fuel : Nat} {v : Value} {x : DataW H × List MemPlace} (h : DataW.trod enc Tryd.prog W 0 (fun _ => true) true fuel 23 [v] = some x) :
    ∃ (A : Option Addr) (c : Nat) (bs : List UInt8), v = .slice A bs.length c ∧ c ≤ 9223372036854775807 ∧ Rd W (.slice A bs.length c) bs := by
  have hc1 : Tryd.prog.cellsOf 5 = 1 := by kernel_rfl
  rcases open_ints Tryd.underlying23 Tryd.underlying5 hc1 h with ⟨hcs, _⟩ | ⟨a, len, cap, zs, hcs, _, hle, hmax, hall, _, hcell, hwf⟩
  · obtain rfl : v = .slice none 0 0 := by simpa using hcs
    exact ⟨none, 0, [], rfl, by omega, Rd.nil W⟩
  · obtain rfl : v = .slice (some a) len cap := by simpa using hcs
    simp only [if_true] at hall
    obtain ⟨bs, rfl⟩ := bytes_of_ints zs hwf
    simp only [List.length_map] at hall hcell
    have hlen : (bs.take len).length = len := by rw [List.length_take]; omega
    refine ⟨some a, cap, bs.take len, by rw [hlen], by simp only [maxLen] at hmax; omega, some a, cap, rfl, by rw [hlen]; exact hle, fun h0 => ?_⟩
    rw [hlen] at h0
    obtain ⟨b, off, rfl, hj⟩ := ints_at (w := W) (a := a) (k := .u8) (zs := bs.map fun b => (b.toNat : Int)) (by simpa using hcell) (by simp; omega)
    refine ⟨b, off, rfl, fun i u hu => ?_⟩
    rw [List.getElem?_take] at hu
    split at hu
    · have hi : i < bs.length := (List.getElem?_eq_some_iff.1 hu).1
      rw [hj i (by simpa using hi)]
      have hu' : bs[i]? = some u := hu
      simp [B8, List.getD, hu']
    · cases hu
set_option maxRecDepth 100000 in
theorem opt_of_trod {fuel : Nat} {cs : List Value} {x : DataW H × List MemPlace} (hz : cs.length = 3) (hf : DataW.trod enc Tryd.prog W 0 (fun _ => true) true fuel 50 cs = some x) :
    ∃ (p : Op) (A : Option Addr) (c : Nat), cs = [.int .u16 p.c, .int .u8 p.t, .slice A p.b.length c] ∧ c ≤ 9223372036854775807 ∧ Rd W (.slice A p.b.length c) p.b ∧ p.Fit := by
  obtain ⟨ys, n, _, _, _, hyl, hfld⟩ := DataW.trod_struct Tryd.underlying50 hf
  have k0 : Tryd.prog.cellsOf 5 = 1 := by kernel_rfl
  have k1 : Tryd.prog.cellsOf 48 = 1 := by kernel_rfl
  have k5 : Tryd.prog.cellsOf 23 = 1 := by kernel_rfl
  have hy : ys.length = 3 := by rw [hyl]; rfl
  match cs, hz with
  | [c0, c1, c2], _ =>
    match ys, hy with
    | [y0, y1, y2], _ =>
      have f0 : DataW.trod enc Tryd.prog W 0 (fun _ => true) true n 48 [c0] = some y0 := by
        have h : DataW.trod enc Tryd.prog W 0 (fun _ => true) true n 48 (List.take (Tryd.prog.cellsOf 48) (List.drop 0 [c0, c1, c2])) = some y0 := hfld 0 _ rfl
        rw [k1] at h
        exact h
      have f1 : DataW.trod enc Tryd.prog W 0 (fun _ => true) true n 5 [c1] = some y1 := by
        have h : DataW.trod enc Tryd.prog W 0 (fun _ => true) true n 5 (List.take (Tryd.prog.cellsOf 5) (List.drop 1 [c0, c1, c2])) = some y1 := hfld 1 _ rfl
        rw [k0] at h
        exact h
      have f2 : DataW.trod enc Tryd.prog W 0 (fun _ => true) true n 23 [c2] = some y2 := by
        have h : DataW.trod enc Tryd.prog W 0 (fun _ => true) true n 23 (List.take (Tryd.prog.cellsOf 23) (List.drop 2 [c0, c1, c2])) = some y2 := hfld 2 _ rfl
        rw [k5] at h
        exact h
      obtain ⟨z0, e0, _, w0⟩ := DataW.trod_int Tryd.underlying48 f0
      obtain ⟨a0, rfl, l0⟩ := u16_wf w0
      obtain ⟨z1, e1, _, w1⟩ := DataW.trod_int Tryd.underlying5 f1
      obtain ⟨a1, rfl, l1⟩ := u8n_wf w1
      obtain ⟨A2, q2, b2, rfl, hc2, hr2⟩ := open_bytes_in f2
      simp only [List.cons.injEq, and_true] at e0 e1
      subst e0
      subst e1
      exact ⟨⟨a0, a1, b2⟩, A2, q2, rfl, hc2, hr2, ⟨l0, l1⟩⟩
set_option maxRecDepth 100000 in
theorem open_opts {base : Nat} {v : Value} {d : DataW H} {ps : List MemPlace} (hv : Value.okWide Tryd.prog W .any base 39 v) (h : DataW.Trod enc Tryd.prog W 0 (fun _ => true) true 39 v d ps) :
    ∃ (A : Option Addr) (c : Nat) (l : List Op), v = .slice A l.length c ∧ l.length ≤ c ∧ c ≤ 9223372036854775807 ∧ OpsAt W A l ∧ ∀ x ∈ l, x.Fit := by
  obtain ⟨a0, len, cap, rfl⟩ := okWide_slice Tryd.underlying39 hv
  obtain ⟨fuel, hf⟩ := h
  have hC : Tryd.prog.cellsOf 50 = 3 := by kernel_rfl
  rcases open_slice Tryd.underlying39 hf with ⟨hcs, _⟩ | ⟨a, len', cap', m, n, D, Pl, hcs, _, hle, hmax, hm, _, hall⟩
  · simp [Value.cells] at hcs
    obtain ⟨rfl, rfl, rfl⟩ := hcs
    exact ⟨none, 0, [], rfl, by simp, by omega, OpsAt.nil W, fun _ h => (by cases h)⟩
  · simp [Value.cells] at hcs
    obtain ⟨rfl, rfl, rfl⟩ := hcs
    simp only [if_true] at hm
    have each : ∀ k, k < len → ∃ x : Op, (∃ g o B c, a = ⟨g, o, none⟩ ∧ OpAt W g (o + k * 3) x (.slice B x.b.length c) ∧ c ≤ 9223372036854775807 ∧ Rd W (.slice B x.b.length c) x.b) ∧ x.Fit := fun k hk => by
      have hspot : ∃ b off, a = ⟨b, off, none⟩ := by
        obtain ⟨cs0, hc0, _⟩ := hall 0 (by omega)
        rw [hC] at hc0
        obtain ⟨_, hl0, hat0⟩ := World.cells?_some hc0
        have h5 := hat0 0 (by omega)
        have h6 : cs0[0]? = some (cs0[0]'(by omega)) := List.getElem?_eq_getElem (by omega)
        rw [h6] at h5
        have h7 := World.cell?_spot h5
        obtain ⟨b, off, spot⟩ := a
        refine ⟨b, off, ?_⟩
        have h8 : spot = none := by simpa [Addr.add] using h7
        rw [h8]
      obtain ⟨b, off, rfl⟩ := hspot
      obtain ⟨cs, hc, ht⟩ := hall k (by omega)
      rw [hC] at hc
      obtain ⟨_, hl, hat⟩ := World.cells?_some hc
      obtain ⟨p, B, c, rfl, hc2, hrd, hfit⟩ := opt_of_trod hl ht
      have hcell : ∀ j u, j < 3 → [Value.int .u16 p.c, .int .u8 p.t, .slice B p.b.length c][j]? = some u → W.cell? ⟨b, off + k * 3 + j, none⟩ = some u := fun j u hj hu => by
        have a0 := hat j hj
        simp only [Addr.add_lit] at a0
        rw [← hu]
        simpa using a0
      exact ⟨p, ⟨b, off, B, c, rfl, ⟨hcell 0 _ (by omega) rfl, hcell 1 _ (by omega) rfl, hcell 2 _ (by omega) rfl⟩, hc2, hrd⟩, hfit⟩
    obtain ⟨l, hl, hp⟩ := list_of_each len each
    refine ⟨some a, cap, l, by rw [hl], by rw [hl]; exact hle, by simp only [maxLen] at hmax; omega, fun k x hk => ?_, fun x hx => ?_⟩
    · obtain ⟨⟨g, o, B, c, e, h1, h2, h3⟩, _⟩ := hp k x hk
      exact ⟨g, o, B, c, by rw [e], h1, h2, h3⟩
    · obtain ⟨k, hk⟩ := List.getElem?_of_mem hx
      exact (hp k x hk).2
end
end Go.Proofs.YtnjohgfhagoppaaDoor
