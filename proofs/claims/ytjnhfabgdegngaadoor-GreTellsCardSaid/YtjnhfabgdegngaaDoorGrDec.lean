/-
  What is proved: gre.Decap by contract, with all of its outcomes.
  Conditions: the bytes are fewer than 2^40.
-/
import Derived.Test.YtjnhfabgdegngaaDoorGrHd
namespace Go.Proofs.YtjnhfabgdegngaaDoor
open Go.RowKit

theorem results_cell_tmp2_row {P : Program} {fn : Func} {p u v : Tmp} {ty : TypeId} (h : fn.results = #[.cell p ty, .tmp u, .tmp v]) (tmps : Array Value) (w : World) (g : Nat) (t : TypeId) (cs : Array Value) (fr : Nat × Nat) (d : TypeDesc)
    (hp : tmps.getD p undef = .pointer (some ⟨g, 0, none⟩)) (hg : w.heap[g]? = some (.cells cs t fr))
    (hu : P.underlying ty = some d) (hd : (match d with | .struct _ | .array _ _ => true | _ => false) = true) (hi : (P.info? ty).map (·.size) = some cs.size) :
    (results fn tmps).run P w = .ok (.tuple #[.agg cs, tmps.getD u undef, tmps.getD v undef]) w := by
  have hp' : tmps[p]?.getD undef = .pointer (some ⟨g, 0, none⟩) := by simpa using hp
  simp [results, h, hp', asAddr, run_loadVar_row w g t ty cs fr d hg hu hd hi]
/-- What is told where no frame comes out. -/
def GRBad (n : Int) (l : List ByteArray) (w : World) (e : Ending) (w' : World) : Prop :=
  ∃ b, e = .returned (.tuple #[.agg gr0.row, .slice none 0 0, .iface 74 (.pointer (some ⟨b, 0, none⟩))]) ∧ Chain w' n l (.iface 74 (.pointer (some ⟨b, 0, none⟩))) ∧ Below w.heap.size w w'
/-- What is told where one does. -/
def GRGood (h : GH) (f : List UInt8) (w : World) (e : Ending) (w' : World) : Prop :=
  ∃ g, e = .returned (.tuple #[.agg h.row, .slice (some ⟨g, 0, none⟩) f.length f.length, .nilIface]) ∧ w.heap.size ≤ g ∧ w'.heap[g]? = some (bytesObj f) ∧ Below w.heap.size w w'
/-- The cell of the result, beside all that is new. -/
structure GDS (w W : World) : Prop where
  z : W.heap[w.heap.size]? = some gr0.obj
  old : Below w.heap.size w W
section
variable {w W W' : World} {b : Nat} {n : Int} {l : List ByteArray} {v : Value}
theorem GDS.new (w : World) : GDS w (w.alloc gr0.obj) := ⟨heap_alloc_new w _, (Below.refl _ _).alloc (Nat.le_refl _) _⟩
theorem GDS.lt (s : GDS w W) : w.heap.size < W.heap.size := (Array.getElem?_eq_some_iff.1 s.z).1
theorem GDS.below (s : GDS w W) (hb : Below W.heap.size W W') : GDS w W' := ⟨(hb.block _ s.lt).trans s.z, below_to s.old hb s.old.size⟩
theorem GDS.fr (s : GDS w W) (hf : Fr (· = (⟨b, 0, none⟩ : Addr)) W W') (hb : w.heap.size < b) : GDS w W' :=
  ⟨(hf.block _ s.lt (fun a ha => by subst ha; simp only; omega)).trans s.z, below_to s.old (hf.below (B := w.heap.size) s.old.size (fun x hx => by subst hx; simp only; omega)) (Nat.le_refl _)⟩
theorem GDS.row (s : GDS w W) (cs : Array Value) : Below w.heap.size w (W.setRow w.heap.size cs) :=
  below_to s.old ((Fr.of_row W w.heap.size cs).below (B := w.heap.size) s.old.size (fun x hx => by have e : x.block = w.heap.size := hx; omega)) (Nat.le_refl _)
theorem GDS.bad (s : GDS w W) (hc : Chain W n l v) : Chain (W.setRow w.heap.size gr0.row) n l v ∧ Below w.heap.size w (W.setRow w.heap.size gr0.row) := ⟨hc.row s.z (grrow_plain _), s.row _⟩
end
theorem gwrapgr (n : Int) (l : List ByteArray) (T : TypeId) (u : Value) (w : World) (hc : Chain w n l (.iface T u)) :
    Calls Tryd.prog 15 #[.string ⟨#[103, 114, 101]⟩, .iface T u] w fun e w' => ∃ b, e = .returned (.iface 74 (.pointer (some ⟨b, 0, none⟩))) ∧ Chain w' n (grWord :: l) (.iface 74 (.pointer (some ⟨b, 0, none⟩))) ∧ Below w.heap.size w w' := by
  refine (wrap_any _ _ _ _).mono ?_
  rintro e w' ⟨rfl, rfl⟩
  exact ⟨_, rfl, chain_wrapped _ hc, (Below.refl _ _).alloc (Nat.le_refl _) _⟩
section
variable {n : Int} {l : List ByteArray} {A : Option Addr} {c : Nat} {bs r f : List UInt8} {w : World} {h : GH}
set_option maxHeartbeats 2000000 in
theorem grdecap_nohead (hr : Rd w (.slice A bs.length c) bs) (hL : bs.length ≤ 1099511627776) (hh : ∀ p W, Rdr W p bs → Calls Tryd.prog 24 #[.pointer (some p)] W (GRNo n l p W)) :
    Calls Tryd.prog 8 #[.slice A bs.length c] w (GRBad n (grWord :: l) w) := by
  have H0 := Lib.hid (GDS.new w)
  have HR : Hid (∀ o, _) := fun o => Read_facts (.slice A bs.length c) bs (w.alloc o) (hr.below ((Below.refl _ _).alloc (Nat.le_refl _) o)) hL
  have HH := Lib.hid hh
  clear hr hL hh
  unfold GRBad
  unfold GRNo at HH
  go_enter Tryd.func8, Tryd.ntmps8
  go_wp2_with fail
  refine (HR.out _).mono ?_
  rintro e w1 ⟨b, rfl, hb, hr1, hB1⟩
  have H1 := Lib.hid (H0.out.below hB1)
  have hbz : w.heap.size < b := by rw [World.size_alloc] at hb; omega
  have HB := Lib.hid (And.intro hbz hr1)
  clear hb hr1 hB1 hbz H0 HR
  go_wp2_with fail
  refine (HH.out _ _ HB.out.2).mono ?_
  rintro e w2 ⟨T, u, he, hc, hf⟩
  have he' : e = .returned (.tuple #[.agg #[.bool false, .bool false, .int .u32 0, .bool false, .int .u32 0], .iface T u]) := he
  subst he'
  have H2 := Lib.hid (H1.out.fr hf HB.out.1)
  have HW : Hid (∀ o, _) := fun o => gwrapgr n l T u (w2.alloc o) (hc.below ((Below.refl _ _).alloc (Nat.le_refl _) o))
  clear he hc hf H1 HB HH
  go_wp2_with fail
  refine (HW.out _).mono ?_
  rintro e w3 ⟨b3, rfl, hc, hb⟩
  have H3 := Lib.hid ((H2.out.below ((Below.refl _ _).alloc (Nat.le_refl _) _)).below hb)
  have HC3 := Lib.hid hc
  have hZ := Lib.hid H3.out.z
  clear hc hb HW H2
  go_wp2_with (refine wpList_store_row rfl 24 (.tmp 2) (.tmp 19) rfl w.heap.size gr0.row rfl rfl 24 _ hZ.out grSize rfl (GH.one _) ?_)
  (try simp only [Exit.inBlock, Exit.then])
  refine bodyPost_ret (results_cell_tmp2_row rfl _ _ w.heap.size _ gr0.row (0, 0) _ rfl (setRow_heap _ _ _ _ _ _ hZ.out) Tryd.underlying24 rfl grSize) rfl ?_
  exact ⟨_, rfl, H3.out.bad HC3.out⟩
set_option maxHeartbeats 2000000 in
theorem grdecap_sum (hr : Rd w (.slice A bs.length c) bs) (hL : bs.length ≤ 1099511627776) (hh : ∀ p W, Rdr W p bs → Calls Tryd.prog 24 #[.pointer (some p)] W (GRYes h f p W)) (hs : h.s = true) (hck : ck bs ≠ 0) :
    Calls Tryd.prog 8 #[.slice A bs.length c] w (GRBad 4 [grWord] w) := by
  have H0 := Lib.hid (GDS.new w)
  have HR : Hid (∀ o, _) := fun o => Read_facts (.slice A bs.length c) bs (w.alloc o) (hr.below ((Below.refl _ _).alloc (Nat.le_refl _) o)) hL
  have HH := Lib.hid hh
  have HV : Hid (∀ W, Below w.heap.size w W → Calls Tryd.prog 25 #[.slice (some ⟨W.heap.size, 0, none⟩) 1 1] (W.alloc (.cells #[.slice A bs.length c] 25)) fun e w' => e = .returned (.bool false) ∧ W.alloc (.cells #[.slice A bs.length c] 25) = w') := fun W hW => by
    have := Valid_one (w := W) rfl (hr.below hW) hL
    rw [decide_eq_false hck] at this
    exact this
  have HS := Lib.hid hs
  clear hr hL hh hs hck
  unfold GRBad
  unfold GRYes at HH
  go_enter Tryd.func8, Tryd.ntmps8
  go_wp2_with fail
  refine (HR.out _).mono ?_
  rintro e w1 ⟨b, rfl, hb, hr1, hB1⟩
  have H1 := Lib.hid (H0.out.below hB1)
  have hbz : w.heap.size < b := by rw [World.size_alloc] at hb; omega
  have HB := Lib.hid (And.intro hbz hr1)
  clear hb hr1 hB1 hbz H0 HR
  go_wp2_with fail
  refine (HH.out _ _ HB.out.2).mono ?_
  rintro e w2 ⟨he, hr, hf⟩
  have he' : e = .returned (.tuple #[.agg #[.bool h.s, .bool h.k, .int .u32 (h.key : Int), .bool h.q, .int .u32 (h.seq : Int)], .nilIface]) := he
  subst he'
  have H2 := Lib.hid ((H1.out.fr hf HB.out.1).below ((Below.refl _ _).alloc (Nat.le_refl _) h.obj))
  have HX := Lib.hid (GBox.new w2 h)
  clear he hr hf H1 HB HH
  go_upto_region 5 with fail
  generalize hW : w2.alloc h.obj = W at H2 HX
  have hW2 : w2.alloc (.cells #[.bool h.s, .bool h.k, .int .u32 (h.key : Int), .bool h.q, .int .u32 (h.seq : Int)] 24) = W := hW
  rw [hW2]
  clear hW hW2
  have c0 := HX.out.c0
  rw [HS.out] at c0
  generalize w2.heap.size = G at *
  clear HX
  go_wp2_with fail
  refine (HV.out _ H2.out.old).mono ?_
  rintro e w' ⟨rfl, rfl⟩
  have H3 := Lib.hid (H2.out.below ((Below.refl _ _).alloc (Nat.le_refl _) (.cells #[.slice A bs.length c] 25)))
  clear c0 H2 HV
  generalize W.alloc (.cells #[.slice A bs.length c] 25) = W3 at *
  go_wp2_with fail
  refine (gwrapgr 4 [] _ _ _ rfl).mono ?_
  rintro e w4 ⟨b4, rfl, hc, hb⟩
  have H4 := Lib.hid (H3.out.below hb)
  have HC4 := Lib.hid hc
  have hZ := Lib.hid H4.out.z
  clear hc hb H3
  go_wp2_with (refine wpList_store_row rfl 24 (.tmp 2) (.tmp 30) rfl w.heap.size gr0.row rfl rfl 24 _ hZ.out grSize rfl (GH.one _) ?_)
  (try simp only [Exit.inBlock, Exit.then])
  refine bodyPost_ret (results_cell_tmp2_row rfl _ _ w.heap.size _ gr0.row (0, 0) _ rfl (setRow_heap _ _ _ _ _ _ hZ.out) Tryd.underlying24 rfl grSize) rfl ?_
  exact ⟨_, rfl, H4.out.bad HC4.out⟩
end
end Go.Proofs.YtjnhfabgdegngaaDoor
