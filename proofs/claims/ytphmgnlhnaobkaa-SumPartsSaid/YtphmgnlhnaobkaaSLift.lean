/-
  What is proved: from a contract of a law's function ('it returns true, and all older memory is as it was') to the given row, for rows that list no variable; arguments opened: bytes, slices of bytes, numbers.
  Conditions: none of its own.
-/
import Derived.Test.YtphmgnlhnaobkaaRows
import Derived.Test.YtphmgnlhnaobkaaSShown
import Derived.ProofKit
import Derived.Carry
import Derived.ChangeSlices
import Derived.OpenShut
import Derived.Deep.Slices
namespace Go.Proofs.Ytphmgnlhnaobkaa
open Go.ChangeShapes Go.WideShapes Go.RowKit Go.Deep

theorem ownGodebug : ownKnob Try.prog.godebug = none := by kernel_rfl
theorem laidOutAll : laidOutB Try.prog = true := by kernel_rfl
theorem typesSize : Try.prog.types.size = 66 := by kernel_rfl

section
variable {H : Type} {enc : TypeId × Value → H}
theorem trodAll_below {W W' : World} (hb : Below W.heap.size W W') (ts : List TypeId) : ∀ (vs : List Value) (ds : List (DataW H)) (ps : List MemPlace),
    (∀ t ∈ ts, Try.prog.readableRec t = true ∧ t < Try.prog.types.size) → DataW.TrodAll enc Try.prog W 0 (fun _ => true) true ts vs ds ps → (∀ x ∈ ps, x.block < W.heap.size) →
    DataW.TrodAll enc Try.prog W' 0 (fun b => decide (b < W.heap.size)) true ts vs ds ps := by
  induction ts with
  | nil =>
    intro vs ds ps _ h _
    obtain ⟨rfl, rfl, rfl⟩ := trodAll_nil h
    exact trodAll_mk0
  | cons t ts ih =>
    intro vs ds ps hr h hlt
    obtain ⟨v, vs, d, ds, p, q, rfl, rfl, rfl, h1, h2⟩ := trodAll_cons h
    have ht := hr t (List.mem_cons_self ..)
    exact ⟨p, q, (Below.trod laidOutAll ht.1 ht.2 h1 hb (fun x hx => hlt x (List.mem_append_left _ hx))),
      (ih vs ds q (fun u hu => hr u (List.mem_cons_of_mem _ hu)) h2 (fun x hx => hlt x (List.mem_append_right _ hx))), rfl⟩

/-- The row's 'post' out of the contract's. -/
theorem law_post {f : Func} {s : ChangeSpec} {W W' : World} {args : Array Value} {ds gs : List (DataW H)} {before : List MemPlace} (hv : s.vars = [])
    (hs : s.fn H (ds ++ gs) = { results := [.lit (.bool true)], args := ds }) (hrt : f.resultTypes = #[4])
    (hp : ∀ t ∈ f.params.toList, Try.prog.readableRec t = true ∧ t < Try.prog.types.size)
    (hW : DataW.Whole enc Try.prog f.params.toList s.vars false W args.toList ds gs before) (hb : Below W.heap.size W W') :
    s.post enc Try.prog f false true false false W args (.bool true) W' := by
  have hW' := hW
  have hlt : ∀ x ∈ before, x.block < W.heap.size := fun x hx => hW.lt x hx
  obtain ⟨p, q, hA, hV, rfl, hfz, hnd⟩ := hW
  rw [hv] at hV
  obtain ⟨rfl, rfl⟩ := trodVars_none hV
  refine ⟨_, _, _, [], p, [], hW', ?_, ?_, ?_, hb.frame _, fun h => by cases h⟩
  · rw [hs, hrt]
    exact trodAll_mk1 (shut_bool Try.underlying4 true)
  · rw [hs]
    exact trodAll_below hb _ _ _ _ hp hA (fun x hx => hlt x (List.mem_append_left _ hx))
  · rw [hs, hv]
    rfl
end
theorem u8_wf {n : Int} (h : (Lit.int .u8 n).wf = true) : ∃ a : UInt8, n = (a.toNat : Int) := by
  have hmin : IntKind.u8.min = 0 := by decide
  have hmax : IntKind.u8.max = 255 := by decide
  simp [Lit.wf, hmin, hmax] at h
  refine ⟨UInt8.ofNat n.toNat, ?_⟩
  rw [ofNat_lt]
  omega
theorem bytes_of_ints : ∀ zs : List Int, (∀ n ∈ zs, (Lit.int .u8 n).wf = true) → ∃ bs : List UInt8, zs = bs.map fun b => (b.toNat : Int)
  | [], _ => ⟨[], rfl⟩
  | z :: zs, h => by
    obtain ⟨a, rfl⟩ := u8_wf (h z (List.mem_cons_self ..))
    obtain ⟨bs, rfl⟩ := bytes_of_ints zs (fun n hn => h n (List.mem_cons_of_mem _ hn))
    exact ⟨a :: bs, rfl⟩

section
variable {H : Type} {enc : TypeId × Value → H} {W : World}
set_option maxRecDepth 100000 in
/-- A slice of bytes among the arguments. -/
theorem open_bytes {base : Nat} {v : Value} {d : DataW H} {ps : List MemPlace} (hv : Value.okWide Try.prog W .any base 32 v) (h : DataW.Trod enc Try.prog W 0 (fun _ => true) true 32 v d ps) :
    ∃ (A : Option Addr) (c : Nat) (bs : List UInt8), v = .slice A bs.length c ∧ c ≤ 9223372036854775807 ∧ Rd W (.slice A bs.length c) bs := by
  obtain ⟨a0, len, cap, rfl⟩ := okWide_slice Try.underlying32 hv
  obtain ⟨fuel, hf⟩ := h
  have hc1 : Try.prog.cellsOf 5 = 1 := by kernel_rfl
  rcases open_ints Try.underlying32 Try.underlying5 hc1 hf with ⟨hcs, _⟩ | ⟨a, len', cap', zs, hcs, _, hle, hmax, hall, _, hcell, hwf⟩
  · simp [Value.cells] at hcs
    obtain ⟨rfl, rfl, rfl⟩ := hcs
    exact ⟨none, 0, [], rfl, by omega, Rd.nil W⟩
  · simp [Value.cells] at hcs
    obtain ⟨rfl, rfl, rfl⟩ := hcs
    simp only [if_true] at hall
    obtain ⟨bs, rfl⟩ := bytes_of_ints zs hwf
    simp only [List.length_map] at hall hcell
    have hlen : (bs.take len).length = len := by rw [List.length_take]; omega
    refine ⟨some a, cap, bs.take len, by rw [hlen], by simp only [maxLen] at hmax; omega, some a, cap, rfl, by rw [hlen]; exact hle, fun h0 => ?_⟩
    rw [hlen] at h0
    obtain ⟨b, off, rfl, hj⟩ := ints_at (w := W) (a := a) (k := .u8) (zs := bs.map fun b => (b.toNat : Int)) (by simpa using hcell) (by simp; omega)
    refine ⟨b, off, rfl, fun i u hu => ?_⟩
    rw [List.getElem?_take] at hu
    split at hu
    · have hi : i < bs.length := (List.getElem?_eq_some_iff.1 hu).1
      rw [hj i (by simpa using hi)]
      have hu' : bs[i]? = some u := hu
      simp [B8, List.getD, hu']
    · cases hu
end
section
variable {H : Type} {enc : TypeId × Value → H} {W : World}
set_option maxRecDepth 100000 in
/-- A slice of bytes in a cell. -/
theorem open_bytes_cell {fuel : Nat} {v : Value} {x : DataW H × List MemPlace} (h : DataW.trod enc Try.prog W 0 (fun _ => true) true fuel 32 [v] = some x) :
    ∃ (A : Option Addr) (c : Nat) (bs : List UInt8), v = .slice A bs.length c ∧ c ≤ 9223372036854775807 ∧ Rd W (.slice A bs.length c) bs := by
  have hc1 : Try.prog.cellsOf 5 = 1 := by kernel_rfl
  rcases open_ints Try.underlying32 Try.underlying5 hc1 h with ⟨hcs, _⟩ | ⟨a, len, cap, zs, hcs, _, hle, hmax, hall, _, hcell, hwf⟩
  · obtain rfl : v = .slice none 0 0 := by simpa using hcs
    exact ⟨none, 0, [], rfl, by omega, Rd.nil W⟩
  · obtain rfl : v = .slice (some a) len cap := by simpa using hcs
    simp only [if_true] at hall
    obtain ⟨bs, rfl⟩ := bytes_of_ints zs hwf
    simp only [List.length_map] at hall hcell
    have hlen : (bs.take len).length = len := by rw [List.length_take]; omega
    refine ⟨some a, cap, bs.take len, by rw [hlen], by simp only [maxLen] at hmax; omega, some a, cap, rfl, by rw [hlen]; exact hle, fun h0 => ?_⟩
    rw [hlen] at h0
    obtain ⟨b, off, rfl, hj⟩ := ints_at (w := W) (a := a) (k := .u8) (zs := bs.map fun b => (b.toNat : Int)) (by simpa using hcell) (by simp; omega)
    refine ⟨b, off, rfl, fun i u hu => ?_⟩
    rw [List.getElem?_take] at hu
    split at hu
    · have hi : i < bs.length := (List.getElem?_eq_some_iff.1 hu).1
      rw [hj i (by simpa using hi)]
      have hu' : bs[i]? = some u := hu
      simp [B8, List.getD, hu']
    · cases hu
theorem nat_wf {k : IntKind} {n : Int} (h : (Lit.int k n).wf = true) (h0 : k.min = 0) : ∃ m : Nat, n = (m : Int) ∧ (m : Int) ≤ k.max := by
  simp [Lit.wf, h0] at h
  exact ⟨n.toNat, by omega, by omega⟩
theorem u8_nat {n : Int} (h : (Lit.int .u8 n).wf = true) : ∃ m : Nat, n = (m : Int) ∧ m < 256 := by
  obtain ⟨m, e, hm⟩ := nat_wf h (by decide)
  have : IntKind.u8.max = 255 := by rfl
  exact ⟨m, e, by omega⟩
theorem u16_nat {n : Int} (h : (Lit.int .u16 n).wf = true) : ∃ m : Nat, n = (m : Int) ∧ m ≤ 65535 := by
  obtain ⟨m, e, hm⟩ := nat_wf h (by decide)
  have : IntKind.u16.max = 65535 := by rfl
  exact ⟨m, e, by omega⟩
theorem u32_nat {n : Int} (h : (Lit.int .u32 n).wf = true) : ∃ m : Nat, n = (m : Int) ∧ m < 4294967296 := by
  obtain ⟨m, e, hm⟩ := nat_wf h (by decide)
  have : IntKind.u32.max = 4294967295 := by rfl
  exact ⟨m, e, by omega⟩

/-- The parts that a slice value holds. -/
def PartsAt (w : World) (A : Option Addr) (M : Nat) : Prop :=
  ∀ k, k < M → ∃ g o B bs c, A = some ⟨g, o, none⟩ ∧ w.cell? ⟨g, o + k, none⟩ = some (.slice B (List.length bs) c) ∧ c ≤ 9223372036854775807 ∧ Rd w (.slice B (List.length bs) c) bs
theorem open_parts {base : Nat} {v : Value} {d : DataW H} {ps : List MemPlace} (hv : Value.okWide Try.prog W .any base 22 v) (h : DataW.Trod enc Try.prog W 0 (fun _ => true) true 22 v d ps) :
    ∃ (A : Option Addr) (M c : Nat), v = .slice A M c ∧ M ≤ c ∧ c ≤ 9223372036854775807 ∧ PartsAt W A M := by
  obtain ⟨a0, len, cap, rfl⟩ := okWide_slice Try.underlying22 hv
  obtain ⟨fuel, hf⟩ := h
  have hC : Try.prog.cellsOf 32 = 1 := by kernel_rfl
  rcases open_slice Try.underlying22 hf with ⟨hcs, _⟩ | ⟨a, len', cap', m, n, D, Pl, hcs, _, hle, hmax, hm, _, hall⟩
  · simp [Value.cells] at hcs
    obtain ⟨rfl, rfl, rfl⟩ := hcs
    exact ⟨none, 0, 0, rfl, by omega, by omega, fun k hk => absurd hk (by omega)⟩
  · simp [Value.cells] at hcs
    obtain ⟨rfl, rfl, rfl⟩ := hcs
    simp only [if_true] at hm
    refine ⟨some a, len, cap, rfl, hle, by simp only [maxLen] at hmax; omega, fun k hk => ?_⟩
    have hspot : ∃ b off, a = ⟨b, off, none⟩ := by
      obtain ⟨cs0, hc0, _⟩ := hall 0 (by omega)
      rw [hC] at hc0
      obtain ⟨_, hl0, hat0⟩ := World.cells?_some hc0
      have h5 := hat0 0 (by omega)
      have h6 : cs0[0]? = some (cs0[0]'(by omega)) := List.getElem?_eq_getElem (by omega)
      rw [h6] at h5
      have h7 := World.cell?_spot h5
      obtain ⟨b, off, spot⟩ := a
      refine ⟨b, off, ?_⟩
      have h8 : spot = none := by simpa [Addr.add] using h7
      rw [h8]
    obtain ⟨b, off, rfl⟩ := hspot
    obtain ⟨cs, hc, ht⟩ := hall k (by omega)
    rw [hC] at hc
    obtain ⟨_, hl, hat⟩ := World.cells?_some hc
    match cs, hl with
    | [c0], _ =>
      obtain ⟨B, c, bs, e2, hc2, hrd⟩ := open_bytes_cell ht
      have a0 := hat 0 (by omega)
      simp only [Addr.add_lit] at a0
      subst e2
      exact ⟨b, off, B, bs, c, rfl, by simpa using a0, hc2, hrd⟩
/-- The numbers that a slice value holds. -/
def WordsAt (w : World) (A : Option Addr) (M : Nat) : Prop :=
  ∀ k, k < M → ∃ g o, ∃ n : Nat, A = some ⟨g, o, none⟩ ∧ w.cell? ⟨g, o + k, none⟩ = some (.int .u16 (n : Int)) ∧ n ≤ 65535
theorem words_of_ints : ∀ zs : List Int, (∀ n ∈ zs, (Lit.int .u16 n).wf = true) → ∃ ns : List Nat, (zs = ns.map fun (b : Nat) => (b : Int)) ∧ ∀ n ∈ ns, n ≤ 65535
  | [], _ => ⟨[], rfl, by simp⟩
  | z :: zs, h => by
    obtain ⟨a, rfl, ha⟩ := u16_nat (h z (List.mem_cons_self ..))
    obtain ⟨bs, rfl, hb⟩ := words_of_ints zs (fun n hn => h n (List.mem_cons_of_mem _ hn))
    exact ⟨a :: bs, rfl, by intro n hn; rcases List.mem_cons.1 hn with rfl | hn; exact ha; exact hb n hn⟩
theorem open_words {base : Nat} {v : Value} {d : DataW H} {ps : List MemPlace} (hv : Value.okWide Try.prog W .any base 42 v) (h : DataW.Trod enc Try.prog W 0 (fun _ => true) true 42 v d ps) :
    ∃ (A : Option Addr) (M c : Nat), v = .slice A M c ∧ M ≤ c ∧ c ≤ 9223372036854775807 ∧ WordsAt W A M := by
  obtain ⟨a0, len, cap, rfl⟩ := okWide_slice Try.underlying42 hv
  obtain ⟨fuel, hf⟩ := h
  have hc1 : Try.prog.cellsOf 23 = 1 := by kernel_rfl
  rcases open_ints Try.underlying42 Try.underlying23 hc1 hf with ⟨hcs, _⟩ | ⟨a, len', cap', zs, hcs, _, hle, hmax, hall, _, hcell, hwf⟩
  · simp [Value.cells] at hcs
    obtain ⟨rfl, rfl, rfl⟩ := hcs
    exact ⟨none, 0, 0, rfl, by omega, by omega, fun k hk => absurd hk (by omega)⟩
  · simp [Value.cells] at hcs
    obtain ⟨rfl, rfl, rfl⟩ := hcs
    simp only [if_true] at hall
    obtain ⟨ns, rfl, hns⟩ := words_of_ints zs hwf
    simp only [List.length_map] at hall hcell
    refine ⟨some a, len, cap, rfl, hle, by simp only [maxLen] at hmax; omega, fun k hk => ?_⟩
    obtain ⟨b, off, rfl, hj⟩ := ints_at (w := W) (a := a) (k := .u16) (zs := ns.map fun (b : Nat) => (b : Int)) (by simpa using hcell) (by simp; omega)
    have hi : k < ns.length := by omega
    have hu : ns[k]? = some ns[k] := List.getElem?_eq_getElem hi
    refine ⟨b, off, ns[k], rfl, ?_, hns _ (List.getElem_mem hi)⟩
    rw [hj k (by simpa using hi)]
    simp [List.getD, hu]
end
end Go.Proofs.Ytphmgnlhnaobkaa
