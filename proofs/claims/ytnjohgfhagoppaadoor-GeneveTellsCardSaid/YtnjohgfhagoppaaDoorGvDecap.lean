/-
  What is proved: geneve.Decap by contract, with all of its outcomes.
  Conditions: the bytes are fewer than 2^39.
-/
import Derived.Test.YtnjohgfhagoppaaDoorGvOpts
namespace Go.Proofs.YtnjohgfhagoppaaDoor
open Go.RowKit

theorem results_tmp4 {fn : Func} {t u v x : Tmp} (h : fn.results = #[.tmp t, .tmp u, .tmp v, .tmp x]) (tmps : Array Value) (P : Program) (w : World) :
    (results fn tmps).run P w = .ok (.tuple #[tmps.getD t undef, tmps.getD u undef, tmps.getD v undef, tmps.getD x undef]) w := by
  simp [results, h]
theorem results_tmp5 {fn : Func} {t u v x y : Tmp} (h : fn.results = #[.tmp t, .tmp u, .tmp v, .tmp x, .tmp y]) (tmps : Array Value) (P : Program) (w : World) :
    (results fn tmps).run P w = .ok (.tuple #[tmps.getD t undef, tmps.getD u undef, tmps.getD v undef, tmps.getD x undef, tmps.getD y undef]) w := by
  simp [results, h]
/-- What is told where no frame comes out. -/
def GXBad (n : Int) (l : List ByteArray) (w : World) (e : Ending) (w' : World) : Prop :=
  ∃ b, e = .returned (.tuple #[.int .u32 0, .slice none 0 0, .slice none 0 0, .iface 92 (.pointer (some ⟨b, 0, none⟩))]) ∧ Chain w' n l (.iface 92 (.pointer (some ⟨b, 0, none⟩))) ∧ Below w.heap.size w w'
/-- What is told where one does. -/
def GXGood (id : Nat) (l : List Op) (f : List UInt8) (w : World) (e : Ending) (w' : World) : Prop :=
  ∃ sv lx g, e = .returned (.tuple #[.int .u32 (id : Int), sv, .slice (some ⟨g, 0, none⟩) f.length f.length, .nilIface]) ∧ lx.map Ox.p = l ∧ Oq w.heap.size w' sv lx ∧ w.heap.size ≤ g ∧ w'.heap[g]? = some (bytesObj f) ∧ (∀ x ∈ lx, x.sl.ownBlock ≠ some g) ∧ sv.ownBlock ≠ some g ∧ Below w.heap.size w w'
section
variable {n : Int} {l : List ByteArray} {v : Value} {bs r f : List UInt8} {w : World} {I S : Int} {C : Bool}
theorem gdecap_nohead (hr : Rd w v bs) (hL : bs.length ≤ 1099511627776) (hh : ∀ p W, Rdr W p bs → Calls Tryd.prog 46 #[.pointer (some p)] W (GNo n l p W)) :
    Calls Tryd.prog 18 #[v] w (GXBad n (gvWord :: l) w) := by
  have HR := Lib.hid (Read_facts v bs w hr hL)
  have HH := Lib.hid hh
  clear hr hL hh
  unfold GXBad
  unfold GNo at HH
  go_enter Tryd.func18, Tryd.ntmps18
  go_wp2_with fail
  refine HR.out.mono ?_
  rintro e w1 ⟨b, rfl, hb, hr1, hB1⟩
  have H1 := Lib.hid (And.intro hb (And.intro hr1 hB1))
  clear hb hr1 hB1
  go_wp2_with fail
  refine (HH.out _ _ H1.out.2.1).mono ?_
  rintro e w2 ⟨T, u, rfl, hc, hf⟩
  have H2 := Lib.hid (below_to H1.out.2.2 (hf.below (B := w.heap.size) H1.out.2.2.size (fun x hx => by subst hx; exact H1.out.1)) (Nat.le_refl _))
  have HW := Lib.hid (fun o => gwrap n l T u (w2.alloc o) (hc.below ((Below.refl _ _).alloc (Nat.le_refl _) o)))
  have HA : Hid (∀ o, Below w.heap.size w (w2.alloc o)) := fun o => H2.out.alloc H2.out.size o
  clear hc hf
  go_wp2_with fail
  refine (HW.out _).mono ?_
  rintro e w3 ⟨b3, rfl, hc, hb⟩
  have HC3 := Lib.hid hc
  have HB3 := Lib.hid (below_to (HA.out _) hb (HA.out _).size)
  clear hc hb
  go_wp2_with fail
  (try simp only [Exit.inBlock, Exit.then])
  refine bodyPost_ret (results_tmp4 rfl _ _ _) rfl ?_
  exact ⟨_, rfl, HC3.out, HB3.out⟩
theorem gdecap_noopts (hr : Rd w v bs) (hL : bs.length ≤ 1099511627776)
    (hh : ∀ p W, Rdr W p bs → Calls Tryd.prog 46 #[.pointer (some p)] W fun e w' => e = .returned (.tuple #[.agg #[.int .u32 I, .int .i64 S, .bool C], .nilIface]) ∧ Rdr w' p r ∧ Fr (· = p) W w')
    (ho : ∀ p W, Rdr W p r → Calls Tryd.prog 47 #[.pointer (some p), .agg #[.int .u32 I, .int .i64 S, .bool C]] W (LNo n l p W)) :
    Calls Tryd.prog 18 #[v] w (GXBad n (gvWord :: l) w) := by
  have HR := Lib.hid (Read_facts v bs w hr hL)
  have HH := Lib.hid hh
  have HO := Lib.hid ho
  clear hr hL hh ho
  unfold GXBad
  unfold LNo at HO
  go_enter Tryd.func18, Tryd.ntmps18
  go_wp2_with fail
  refine HR.out.mono ?_
  rintro e w1 ⟨b, rfl, hb, hr1, hB1⟩
  have H1 := Lib.hid (And.intro hb (And.intro hr1 hB1))
  clear hb hr1 hB1
  go_wp2_with fail
  refine (HH.out _ _ H1.out.2.1).mono ?_
  rintro e w2 ⟨rfl, hr2, hf⟩
  have HB2 := Lib.hid (below_to H1.out.2.2 (hf.below (B := w.heap.size) H1.out.2.2.size (fun x hx => by subst hx; exact H1.out.1)) (Nat.le_refl _))
  have HA : Hid (∀ o, Below w.heap.size w (w2.alloc o)) := fun o => HB2.out.alloc HB2.out.size o
  have HRA : Hid (∀ o, Rdr (w2.alloc o) ⟨b, 0, none⟩ r) := fun o => hr2.below ((Below.refl _ _).alloc (Nat.le_refl _) o)
  clear hr2 hf
  go_wp2_with fail
  refine (HO.out _ _ (HRA.out _)).mono ?_
  rintro e w3 ⟨T, u, rfl, hc, hf⟩
  have HB3 := Lib.hid (below_to (HA.out _) (hf.below (B := w.heap.size) (HA.out _).size (fun x hx => by subst hx; exact H1.out.1)) (Nat.le_refl _))
  have HW := Lib.hid (gwrap n l T u w3 hc)
  clear hc hf
  go_wp2_with fail
  refine HW.out.mono ?_
  rintro e w4 ⟨b4, rfl, hc, hb⟩
  have HC4 := Lib.hid hc
  have HB4 := Lib.hid (below_to HB3.out hb HB3.out.size)
  clear hc hb
  go_wp2_with fail
  (try simp only [Exit.inBlock, Exit.then])
  refine bodyPost_ret (results_tmp4 rfl _ _ _) rfl ?_
  exact ⟨_, rfl, HC4.out, HB4.out⟩
/-- What readOptions tells where there are options. -/
def LYes (lo : List Op) (f : List UInt8) (p : Addr) (W : World) (e : Ending) (w' : World) : Prop :=
  ∃ sv lx, e = .returned (.tuple #[sv, .nilIface]) ∧ lx.map Ox.p = lo ∧ Oq W.heap.size w' sv lx ∧ Rdr w' p f ∧ Fr (· = p) W w'
theorem gdecap_frame {lo : List Op} (hr : Rd w v bs) (hL : bs.length ≤ 1099511627776)
    (hh : ∀ p W, Rdr W p bs → Calls Tryd.prog 46 #[.pointer (some p)] W fun e w' => e = .returned (.tuple #[.agg #[.int .u32 I, .int .i64 S, .bool C], .nilIface]) ∧ Rdr w' p r ∧ Fr (· = p) W w')
    (ho : ∀ p W, Rdr W p r → Calls Tryd.prog 47 #[.pointer (some p), .agg #[.int .u32 I, .int .i64 S, .bool C]] W (LYes lo f p W))
    (hf : f.length ≤ 1099511627776) (hw : frameWrong f.length ≠ 0) :
    Calls Tryd.prog 18 #[v] w (GXBad (frameWrong f.length : Nat) [gvWord] w) := by
  have HR := Lib.hid (Read_facts v bs w hr hL)
  have HH := Lib.hid hh
  have HO := Lib.hid ho
  have HFW := Lib.hid (And.intro hf hw)
  clear hr hL hh ho hf hw
  unfold GXBad
  unfold LYes at HO
  go_enter Tryd.func18, Tryd.ntmps18
  go_wp2_with fail
  refine HR.out.mono ?_
  rintro e w1 ⟨b, rfl, hb, hr1, hB1⟩
  have H1 := Lib.hid (And.intro hb (And.intro hr1 hB1))
  clear hb hr1 hB1
  go_wp2_with fail
  refine (HH.out _ _ H1.out.2.1).mono ?_
  rintro e w2 ⟨rfl, hr2, hf⟩
  have HB2 := Lib.hid (below_to H1.out.2.2 (hf.below (B := w.heap.size) H1.out.2.2.size (fun x hx => by subst hx; exact H1.out.1)) (Nat.le_refl _))
  have HA : Hid (∀ o, Below w.heap.size w (w2.alloc o)) := fun o => HB2.out.alloc HB2.out.size o
  have HRA : Hid (∀ o, Rdr (w2.alloc o) ⟨b, 0, none⟩ r) := fun o => hr2.below ((Below.refl _ _).alloc (Nat.le_refl _) o)
  clear hr2 hf
  go_wp2_with fail
  refine (HO.out _ _ (HRA.out _)).mono ?_
  rintro e w3 ⟨sv, lx, rfl, _, _, hr3, hf⟩
  have HB3 := Lib.hid (below_to (HA.out _) (hf.below (B := w.heap.size) (HA.out _).size (fun x hx => by subst hx; exact H1.out.1)) (Nat.le_refl _))
  have HRe := Lib.hid (Rest_any _ f w3 hr3 HFW.out.1)
  clear hr3 hf
  go_wp2_with fail
  refine HRe.out.mono ?_
  rintro e w4 ⟨rfl, ht⟩
  have HB4 := Lib.hid (below_to HB3.out (ht.fr.below (B := w.heap.size) HB3.out.size (fun x hx => by subst hx; exact H1.out.1)) (Nat.le_refl _))
  clear ht
  go_wp2_with fail
  refine (xright_bad _ _ _ HFW.out.2 _).mono ?_
  rintro e w' ⟨rfl, rfl⟩
  go_wp2_with fail
  refine (gwrap _ [] _ _ _ rfl).mono ?_
  rintro e w5 ⟨b4, rfl, hc, hb⟩
  have HC5 := Lib.hid hc
  have HB5 := Lib.hid (below_to HB4.out hb HB4.out.size)
  clear hc hb
  go_wp2_with fail
  (try simp only [Exit.inBlock, Exit.then])
  refine bodyPost_ret (results_tmp4 rfl _ _ _) rfl ?_
  exact ⟨_, rfl, HC5.out, HB5.out⟩
theorem gdecap_good {lo : List Op} {id : Nat} (hr : Rd w v bs) (hL : bs.length ≤ 1099511627776) (hI : I = (id : Int))
    (hh : ∀ p W, Rdr W p bs → Calls Tryd.prog 46 #[.pointer (some p)] W fun e w' => e = .returned (.tuple #[.agg #[.int .u32 I, .int .i64 S, .bool C], .nilIface]) ∧ Rdr w' p r ∧ Fr (· = p) W w')
    (ho : ∀ p W, Rdr W p r → Calls Tryd.prog 47 #[.pointer (some p), .agg #[.int .u32 I, .int .i64 S, .bool C]] W (LYes lo f p W))
    (hf : f.length ≤ 1099511627776) (hw : frameWrong f.length = 0) :
    Calls Tryd.prog 18 #[v] w (GXGood id lo f w) := by
  have HR := Lib.hid (Read_facts v bs w hr hL)
  have HH := Lib.hid hh
  have HO := Lib.hid ho
  have HFW := Lib.hid (And.intro hf (frame_fits hw))
  clear hr hL hh ho hf hw
  unfold GXGood
  unfold LYes at HO
  rw [← hI]
  clear hI
  go_enter Tryd.func18, Tryd.ntmps18
  go_wp2_with fail
  refine HR.out.mono ?_
  rintro e w1 ⟨b, rfl, hb, hr1, hB1⟩
  have H1 := Lib.hid (And.intro hb (And.intro hr1 hB1))
  clear hb hr1 hB1
  go_wp2_with fail
  refine (HH.out _ _ H1.out.2.1).mono ?_
  rintro e w2 ⟨rfl, hr2, hf⟩
  have HB2 := Lib.hid (below_to H1.out.2.2 (hf.below (B := w.heap.size) H1.out.2.2.size (fun x hx => by subst hx; exact H1.out.1)) (Nat.le_refl _))
  have HA : Hid (∀ o, Below w.heap.size w (w2.alloc o)) := fun o => HB2.out.alloc HB2.out.size o
  have HRA : Hid (∀ o, Rdr (w2.alloc o) ⟨b, 0, none⟩ r) := fun o => hr2.below ((Below.refl _ _).alloc (Nat.le_refl _) o)
  have HBl : Hid (b < w2.heap.size) := hr2.at_
  clear hr2 hf
  go_wp2_with fail
  refine (HO.out _ _ (HRA.out _)).mono ?_
  rintro e w3 ⟨sv, lx, rfl, hlx, hq, hr3, hf⟩
  have HB3 := Lib.hid (below_to (HA.out _) (hf.below (B := w.heap.size) (HA.out _).size (fun x hx => by subst hx; exact H1.out.1)) (Nat.le_refl _))
  have HRe := Lib.hid (Rest_any _ f w3 hr3 HFW.out.1)
  rw [World.size_alloc] at hq
  have HQ := Lib.hid hq
  have HLX := Lib.hid hlx
  have hG : w3.heap[w2.heap.size]? = some (headObj I S C) := (hf.block _ (by simp) (fun a ha => by subst ha; exact Nat.ne_of_lt HBl.out)).trans (heap_alloc_new w2 _)
  have HG := Lib.hid hG
  clear hr3 hf hq hlx hG
  go_wp2_with fail
  refine HRe.out.mono ?_
  rintro e w4 ⟨rfl, ht⟩
  have HB4 := Lib.hid (below_to HB3.out (ht.fr.below (B := w.heap.size) HB3.out.size (fun x hx => by subst hx; exact H1.out.1)) (Nat.le_refl _))
  have hp4 := ht.part
  rw [List.take_length] at hp4
  have HP4 := Lib.hid hp4
  have HQ4 := Lib.hid (HQ.out.fr ht.fr (fun a ha => by subst ha; have := HBl.out; simp only; omega))
  have hG4 : w4.heap[w2.heap.size]? = some (headObj I S C) := (ht.fr.block _ (Array.getElem?_eq_some_iff.1 HG.out).1 (fun a ha => by subst ha; exact Nat.ne_of_lt HBl.out)).trans HG.out
  have q0 : w4.cell? ⟨w2.heap.size, 0, none⟩ = some (.int .u32 I) := by rw [cell_of_row w4 _ 0 _ _ _ hG4]; rfl
  clear ht hp4 hG4
  have hX := fun W => xright_ok (some ⟨w3.heap.size, 0, none⟩) f.length f.length HFW.out.2.1 HFW.out.2.2 W
  go_wp2_with fail
  refine (hX _).mono ?_
  rintro e w' ⟨rfl, rfl⟩
  clear hX
  go_wp2_with fail
  (try simp only [Exit.inBlock, Exit.then])
  refine bodyPost_ret (results_tmp4 rfl _ _ _) rfl ?_
  refine ⟨sv, lx, _, rfl, HLX.out, HQ4.out.mono (by have := HB2.out.size; omega), HB3.out.size, HP4.out, fun x hx e => ?_, fun e => ?_, HB4.out⟩
  · have := ((HQ.out.own x hx).lt _ e).2; omega
  · have := (HQ.out.row.lt _ e).2; omega
end
end Go.Proofs.YtnjohgfhagoppaaDoor
