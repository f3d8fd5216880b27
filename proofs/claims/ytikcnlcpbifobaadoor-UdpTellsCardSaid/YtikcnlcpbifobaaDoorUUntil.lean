/-
  What is proved: udp's untilWrong by contract, Parse and Bytes on it: what is panicked with is told as an error.
  Conditions: the bytes are fewer than 2^40.
-/
import Derived.Test.YtikcnlcpbifobaaDoorUParse
namespace Go.Proofs.YtikcnlcpbifobaaDoor
open Go.RowKit

theorem assert_wrong (T : TypeId) (u : Value) (W : World) : (Instr.typeAssert (.iface 64 (.agg #[.iface T u])) 20 64 true).run Tryd.prog W = .ok (.tuple #[.agg #[.iface T u], .bool true]) W := by kernel_rfl
theorem set_block {W : World} {G g i : Nat} {o : Obj} (h : W.heap[G]? = some o) (hne : G ≠ g) (v : Value) : (W.setCell ⟨g, i, none⟩ v).heap[G]? = some o := (Below.heap_setCell _ _ _ _ hne).trans h
theorem results_row_cell {P : Program} {fn : Func} {p q : Tmp} {ty ty2 : TypeId} (h : fn.results = #[.cell p ty, .cell q ty2]) (tmps : Array Value) (w : World) (g : Nat) (t : TypeId) (cs : Array Value) (fr : Nat × Nat) (d : TypeDesc)
    (hp : tmps.getD p undef = .pointer (some ⟨g, 0, none⟩)) (hg : w.heap[g]? = some (.cells cs t fr))
    (hu : P.underlying ty = some d) (hd : (match d with | .struct _ | .array _ _ => true | _ => false) = true) (hi : (P.info? ty).map (·.size) = some cs.size)
    (a2 : Addr) (hq : tmps.getD q undef = .pointer (some a2)) (v : Value) (hv : (loadVar ty2 a2).run P w = .ok v w) :
    (results fn tmps).run P w = .ok (.tuple #[.agg cs, v]) w := by
  have hp' : tmps[p]?.getD undef = .pointer (some ⟨g, 0, none⟩) := by simpa using hp
  have hq' : tmps[q]?.getD undef = .pointer (some a2) := by simpa using hq
  simp [results, h, hp', hq', asAddr, run_loadVar_row w g t ty cs fr d hg hu hd hi, hv]
theorem load_err {w : World} {g : Nat} {v : Value} (h : w.cell? ⟨g, 0, none⟩ = some v) : (loadVar 29 ⟨g, 0, none⟩).run Tryd.prog w = .ok v w := by simp [go_sem, h]
/-- The block of the error that a call tells, ahead of what it is set to. -/
def NilAt (w : World) (g : Nat) : Prop := w.heap[g]? = some (.cells #[.nilIface] 29)
theorem NilAt.cell {w : World} {g : Nat} (h : NilAt w g) : w.cell? ⟨g, 0, none⟩ = some .nilIface := by
  rw [cell_of_row w g _ _ _ _ h]
  rfl
theorem NilAt.free {w : World} {g : Nat} (h : NilAt w g) : w.frozen? ⟨g, 0, none⟩ = false := by
  have h' : w.heap[g]? = some (.cells #[.nilIface] 29) := h
  simp [World.frozen?, h']
theorem NilAt.lt {w : World} {g : Nat} (h : NilAt w g) : g < w.heap.size := (Array.getElem?_eq_some_iff.1 h).1
theorem NilAt.chain {w : World} {g : Nat} (h : NilAt w g) {n : Int} {l : List ByteArray} {v : Value} (hc : Chain w n l v) (x : Value) : Chain (w.setCell ⟨g, 0, none⟩ x) n l v :=
  hc.fr2 (q := fun a => a = ⟨g, 0, none⟩) (Fr.of_set w _ x rfl) (fun a s ha => by subst ha; rw [h.cell]; simp) (fun a T u ha => by subst ha; rw [h.cell]; simp)
/-- What the deferred function leaves of a frame that panicked. -/
def Caught (g : Nat) (T : TypeId) (u : Value) (older : List PanicEntry) (w : World) (e : Ending) (u' : FrameMode) (w' : World) : Prop :=
  e = .returned (.tuple #[]) ∧ u' = .panicking ({ v := wrongIface T u, recovered := true } :: older) ∧ ∃ b, w'.cell? ⟨g, 0, none⟩ = some (.iface 98 (.pointer (some ⟨b, 0, none⟩))) ∧ (∀ n l, Chain w n l (.iface T u) → Chain w' n (udpWord :: l) (.iface 98 (.pointer (some ⟨b, 0, none⟩)))) ∧ Below g w w'
set_option maxRecDepth 100000 in
set_option maxHeartbeats 1000000 in
theorem catchB_panicking (g : Nat) (T : TypeId) (u : Value) (older : List PanicEntry) (w : World) (hg : NilAt w g) :
    CallsD Tryd.prog 39 #[.pointer (some ⟨g, 0, none⟩)] (.panicking ({ v := wrongIface T u, recovered := false } :: older)) w (Caught g T u older w) := by
  have hta := assert_wrong T u
  have hb := below_al (below_al (Below.refl w.heap.size w) (.cells #[.iface T u] 64)) (.cells #[.string udpWord, .iface T u] 100)
  have hg2 : NilAt ((w.alloc (.cells #[.iface T u] 64)).alloc (.cells #[.string udpWord, .iface T u] 100)) g := be_block hb hg
  have HC : Hid (∀ n l, Chain w n l (.iface T u) → Chain ((w.alloc (.cells #[.iface T u] 64)).alloc (.cells #[.string udpWord, .iface T u] 100)) n (udpWord :: l) (.iface 98 (.pointer (some ⟨w.heap.size + 1, 0, none⟩)))) := fun n l hc => by
    have h := chain_wrapped udpWord (hc.below (below_al (Below.refl w.heap.size w) (.cells #[.iface T u] 64)))
    rw [World.size_alloc] at h
    exact h
  have HG2 := Lib.hid hg2
  have HBB := Lib.hid hb
  have HLT : Hid (g ≤ w.heap.size) := Nat.le_of_lt hg.lt
  have f1 := hg2.cell
  have f2 := hg2.free
  clear hb hg2 hg
  unfold udpWord at HC HG2 HBB f1 f2
  unfold Caught udpWord
  refine callsD_of_wpS Tryd.func39 rfl fun c₀ cs hu => ?_
  unfold wrongIface at *
  simp only [Tryd.ntmps39, List.size_toArray, List.length_cons, List.length_nil, Nat.reduceAdd, Nat.reduceSub, Array.replicate_succ, Array.replicate_zero, List.push_toArray, List.append_toArray, List.nil_append, List.cons_append]
  apply wpS_seq
  apply wpS_region
  simp [wpOpsS, go_sem, recoverD, hu, Exit.thenS]
  refine wpS_of_wp ?_
  go_wp2_with (go_at_call 28; refine (wrap_any _ _ _ _).mono ?_; rintro e w2 ⟨rfl, rfl⟩)
  refine ⟨rfl, _, rfl, .tuple #[], results_none rfl _ _ _, rfl, rfl, w.heap.size + 1, World.cell?_setCell_same _ _ _ f1, fun n l hc => HG2.out.chain (HC.out n l hc) _, ?_⟩
  exact (below_to (HBB.out.mono HLT.out) (Below.refl _ _) HLT.out).setCell (Nat.le_refl _) _
set_option maxRecDepth 100000 in
set_option maxHeartbeats 1000000 in
theorem catchB_idle (g : Nat) (w : World) :
    CallsD Tryd.prog 39 #[.pointer (some ⟨g, 0, none⟩)] .returning w fun e u' w' => e = .returned (.tuple #[]) ∧ u' = .returning ∧ w' = w := by
  refine callsD_of_wpS Tryd.func39 rfl fun c₀ cs hu => ?_
  simp only [Tryd.ntmps39, List.size_toArray, List.length_cons, List.length_nil, Nat.reduceAdd, Nat.reduceSub, Array.replicate_succ, Array.replicate_zero, List.push_toArray, List.append_toArray, List.nil_append, List.cons_append]
  apply wpS_seq
  apply wpS_region
  simp [wpOpsS, go_sem, recoverD, hu, Exit.thenS]
  refine wpS_of_wp ?_
  go_wp2_with fail
  exact ⟨rfl, .returning, by rw [← hu], .tuple #[], results_none rfl _ _ _, rfl, rfl, rfl⟩
set_option maxRecDepth 100000 in
set_option maxHeartbeats 1000000 in
theorem catchD_panicking (g : Nat) (T : TypeId) (u : Value) (older : List PanicEntry) (w : World) (hg : NilAt w g) :
    CallsD Tryd.prog 27 #[.pointer (some ⟨g, 0, none⟩)] (.panicking ({ v := wrongIface T u, recovered := false } :: older)) w (Caught g T u older w) := by
  have hta := assert_wrong T u
  have hb := below_al (below_al (Below.refl w.heap.size w) (.cells #[.iface T u] 64)) (.cells #[.string udpWord, .iface T u] 100)
  have hg2 : NilAt ((w.alloc (.cells #[.iface T u] 64)).alloc (.cells #[.string udpWord, .iface T u] 100)) g := be_block hb hg
  have HC : Hid (∀ n l, Chain w n l (.iface T u) → Chain ((w.alloc (.cells #[.iface T u] 64)).alloc (.cells #[.string udpWord, .iface T u] 100)) n (udpWord :: l) (.iface 98 (.pointer (some ⟨w.heap.size + 1, 0, none⟩)))) := fun n l hc => by
    have h := chain_wrapped udpWord (hc.below (below_al (Below.refl w.heap.size w) (.cells #[.iface T u] 64)))
    rw [World.size_alloc] at h
    exact h
  have HG2 := Lib.hid hg2
  have HBB := Lib.hid hb
  have HLT : Hid (g ≤ w.heap.size) := Nat.le_of_lt hg.lt
  have f1 := hg2.cell
  have f2 := hg2.free
  clear hb hg2 hg
  unfold udpWord at HC HG2 HBB f1 f2
  unfold Caught udpWord
  refine callsD_of_wpS Tryd.func27 rfl fun c₀ cs hu => ?_
  unfold wrongIface at *
  simp only [Tryd.ntmps27, List.size_toArray, List.length_cons, List.length_nil, Nat.reduceAdd, Nat.reduceSub, Array.replicate_succ, Array.replicate_zero, List.push_toArray, List.append_toArray, List.nil_append, List.cons_append]
  apply wpS_seq
  apply wpS_region
  simp [wpOpsS, go_sem, recoverD, hu, Exit.thenS]
  refine wpS_of_wp ?_
  go_wp2_with (go_at_call 28; refine (wrap_any _ _ _ _).mono ?_; rintro e w2 ⟨rfl, rfl⟩)
  refine ⟨rfl, _, rfl, .tuple #[], results_none rfl _ _ _, rfl, rfl, w.heap.size + 1, World.cell?_setCell_same _ _ _ f1, fun n l hc => HG2.out.chain (HC.out n l hc) _, ?_⟩
  exact (below_to (HBB.out.mono HLT.out) (Below.refl _ _) HLT.out).setCell (Nat.le_refl _) _
set_option maxRecDepth 100000 in
set_option maxHeartbeats 1000000 in
theorem catchD_idle (g : Nat) (w : World) :
    CallsD Tryd.prog 27 #[.pointer (some ⟨g, 0, none⟩)] .returning w fun e u' w' => e = .returned (.tuple #[]) ∧ u' = .returning ∧ w' = w := by
  refine callsD_of_wpS Tryd.func27 rfl fun c₀ cs hu => ?_
  simp only [Tryd.ntmps27, List.size_toArray, List.length_cons, List.length_nil, Nat.reduceAdd, Nat.reduceSub, Array.replicate_succ, Array.replicate_zero, List.push_toArray, List.append_toArray, List.nil_append, List.cons_append]
  apply wpS_seq
  apply wpS_region
  simp [wpOpsS, go_sem, recoverD, hu, Exit.thenS]
  refine wpS_of_wp ?_
  go_wp2_with fail
  exact ⟨rfl, .returning, by rw [← hu], .tuple #[], results_none rfl _ _ _, rfl, rfl, rfl⟩
/-- What a call tells beside an error. -/
def ToldErr (v : Value) (n : Int) (l : List ByteArray) (w : World) (e : Ending) (w' : World) : Prop := ∃ b, e = .returned (.tuple #[v, .iface 98 (.pointer (some ⟨b, 0, none⟩))]) ∧ Chain w' n l (.iface 98 (.pointer (some ⟨b, 0, none⟩))) ∧ Below w.heap.size w w'
/-- Bytes that a call tells. -/
def BytesTold (l : List UInt8) (w : World) (e : Ending) (w' : World) : Prop := ∃ b, e = .returned (.slice (some ⟨b, 0, none⟩) l.length l.length) ∧ w.heap.size ≤ b ∧ w'.heap[b]? = some (bytesObj l) ∧ Below w.heap.size w w'
theorem nilAt_new (w : World) : NilAt (w.alloc (.cells #[.nilIface] 29)) w.heap.size := heap_alloc_new w _
set_option maxRecDepth 100000 in
set_option maxHeartbeats 2000000 in
theorem untilB_ok (p3 p4 p5 : Addr) (l : List UInt8) (w : World) (hX : Calls Tryd.prog 23 #[.pointer (some p3), .pointer (some p4), .pointer (some p5)] (w.alloc (.cells #[.nilIface] 29)) (BytesTold l (w.alloc (.cells #[.nilIface] 29)))) :
    Calls Tryd.prog 22 #[.func (.func 23) #[] #[.pointer (some p3), .pointer (some p4), .pointer (some p5)]] w fun e w' => ∃ b, e = .returned (.tuple #[.slice (some ⟨b, 0, none⟩) l.length l.length, .nilIface]) ∧ w.heap.size ≤ b ∧ w'.heap[b]? = some (bytesObj l) ∧ Below w.heap.size w w' := by
  have hmf : ∀ (fn : Fn) (first cap : Array Value) (w : World), (Instr.makeFunc fn first cap).run Tryd.prog w = .ok (.func fn first cap) w := fun _ _ _ _ => rfl
  have HX := Lib.hid hX
  have HN := Lib.hid (nilAt_new w)
  have HB := Lib.hid (below_al (Below.refl w.heap.size w) (.cells #[.nilIface] 29))
  clear hX
  unfold BytesTold at HX
  generalize l.length = m at *
  go_enter_defers Tryd.func22, Tryd.ntmps22
  go_wp2_with fail
  refine HX.out.mono ?_
  rintro e w1 ⟨b, rfl, h1, h2, h3⟩
  have hn : NilAt w1 w.heap.size := be_block h3 HN.out
  have f1 := hn.cell
  have f2 := hn.free
  have HQ := Lib.hid (And.intro (Nat.lt_of_lt_of_le HN.out.lt h1) (And.intro h2 (below_to HB.out h3 HB.out.size)))
  clear hn h1 h2 h3 HX HN HB
  go_wp2_with fail
  refine leaves_cons (f := 39) (args := #[.pointer (some ⟨w.heap.size, 0, none⟩)]) (by simp) (by simp [go_sem]) ?_
  refine (catchB_idle w.heap.size _).mono ?_
  rintro e u' w'' ⟨rfl, rfl, rfl⟩
  show ∃ v, _ ∧ _
  refine ⟨.tuple #[.slice (some ⟨b, 0, none⟩) m m, .nilIface], by simp [results, Tryd.results22, go_sem, f1], ?_⟩
  exact ⟨_, rfl, Nat.le_of_lt HQ.out.1, set_block HQ.out.2.1 (Nat.ne_of_gt HQ.out.1) _, HQ.out.2.2.setCell (p := ⟨w.heap.size, 0, none⟩) (Nat.le_refl _) _⟩
set_option maxRecDepth 100000 in
set_option maxHeartbeats 2000000 in
theorem untilB_bad (p3 p4 p5 : Addr) (n : Int) (l : List ByteArray) (w : World) (hX : Calls Tryd.prog 23 #[.pointer (some p3), .pointer (some p4), .pointer (some p5)] (w.alloc (.cells #[.nilIface] 29)) (PErr n l (w.alloc (.cells #[.nilIface] 29)))) :
    Calls Tryd.prog 22 #[.func (.func 23) #[] #[.pointer (some p3), .pointer (some p4), .pointer (some p5)]] w (ToldErr (.slice none 0 0) n (udpWord :: l) w) := by
  have hmf : ∀ (fn : Fn) (first cap : Array Value) (w : World), (Instr.makeFunc fn first cap).run Tryd.prog w = .ok (.func fn first cap) w := fun _ _ _ _ => rfl
  have HX := Lib.hid hX
  have HN := Lib.hid (nilAt_new w)
  have HB := Lib.hid (below_al (Below.refl w.heap.size w) (.cells #[.nilIface] 29))
  clear hX
  unfold PErr at HX
  unfold ToldErr
  go_enter_defers Tryd.func22, Tryd.ntmps22
  go_wp2_with fail
  refine HX.out.mono ?_
  rintro e w1 ⟨T, u, rfl, h1, h2⟩
  have hn : NilAt w1 w.heap.size := be_block h2 HN.out
  have HN1 := Lib.hid hn
  have HC := Lib.hid h1
  have HQ := Lib.hid (below_to HB.out h2 HB.out.size)
  clear hn h1 h2 HX HN HB
  go_wp2_with fail
  refine leaves_cons (f := 39) (args := #[.pointer (some ⟨w.heap.size, 0, none⟩)]) (by simp) (by simp [go_sem]) ?_
  refine (catchB_panicking w.heap.size T u [] _ HN1.out).mono ?_
  rintro e u' w'' ⟨rfl, rfl, b, f1, h2, h3⟩
  have HC2 := Lib.hid (h2 n l HC.out)
  have HQ2 := Lib.hid (below_to HQ.out h3 (Nat.le_refl _))
  clear h2 h3 HC HQ HN1
  show ∃ v, _ ∧ _
  refine ⟨.tuple #[.slice none 0 0, .iface 98 (.pointer (some ⟨b, 0, none⟩))], by simp [results, Tryd.results22, go_sem, f1], ?_⟩
  exact ⟨_, rfl, HC2.out, HQ2.out⟩
set_option maxRecDepth 100000 in
set_option maxHeartbeats 2000000 in
theorem untilD_ok (p3 p4 p5 : Addr) (a b m : Nat) (p : Bool) (l : List UInt8) (w : World) (hX : Calls Tryd.prog 17 #[.pointer (some p3), .pointer (some p4), .pointer (some p5)] ((w.alloc noDgObj).alloc (.cells #[.nilIface] 29)) (PGot a b p l m ((w.alloc noDgObj).alloc (.cells #[.nilIface] 29)))) :
    Calls Tryd.prog 16 #[.func (.func 17) #[] #[.pointer (some p3), .pointer (some p4), .pointer (some p5)]] w fun e w' => ∃ bb, e = .returned (.tuple #[.agg #[.int .u16 a, .int .u16 b, .bool p, .slice (some ⟨bb, 0, none⟩) m m], .nilIface]) ∧ w.heap.size ≤ bb ∧ w'.heap[bb]? = some (bytesObj l) ∧ Below w.heap.size w w' := by
  have hmf : ∀ (fn : Fn) (first cap : Array Value) (w : World), (Instr.makeFunc fn first cap).run Tryd.prog w = .ok (.func fn first cap) w := fun _ _ _ _ => rfl
  have HN : Hid (NilAt ((w.alloc noDgObj).alloc (.cells #[.nilIface] 29)) (w.heap.size + 1)) := by
    have h := nilAt_new (w.alloc noDgObj)
    rw [World.size_alloc] at h
    exact h
  have HB := Lib.hid (below_al (below_al (Below.refl w.heap.size w) noDgObj) (.cells #[.nilIface] 29))
  have HZ : Hid (((w.alloc noDgObj).alloc (.cells #[.nilIface] 29)).heap[w.heap.size]? = some (.cells noDgRow 25)) := be_block (below_al (Below.refl _ _) _) (heap_alloc_new w _)
  have HX := Lib.hid hX
  clear hX
  generalize hW : ((w.alloc noDgObj).alloc (.cells #[.nilIface] 29)) = W0 at *
  unfold noDgObj at hW
  unfold PGot at HX
  go_enter_defers Tryd.func16, Tryd.ntmps16
  go_upto_region 1 with fail
  (try rw [hW])
  clear hW
  go_wp2_with fail
  refine HX.out.mono ?_
  rintro e w1 ⟨bb, rfl, h1, h2, h3⟩
  have HZ1 := Lib.hid (be_block h3 HZ.out)
  have HN1 : Hid (NilAt w1 (w.heap.size + 1)) := be_block h3 HN.out
  have HQ := Lib.hid (And.intro (Nat.lt_of_lt_of_le HN.out.lt h1) (And.intro h2 (below_to HB.out h3 HB.out.size)))
  clear h1 h2 h3 HX HN HB HZ
  have hz2 := setRow_heap w1 w.heap.size noDgRow #[.int .u16 a, .int .u16 b, .bool p, .slice (some ⟨bb, 0, none⟩) m m] 25 (0, 0) HZ1.out
  have hn2 : NilAt (w1.setRow w.heap.size #[.int .u16 a, .int .u16 b, .bool p, .slice (some ⟨bb, 0, none⟩) m m]) (w.heap.size + 1) := (setRow_other _ _ _ (by omega)).trans HN1.out
  have HO2 : Hid ((w1.setRow w.heap.size #[.int .u16 a, .int .u16 b, .bool p, .slice (some ⟨bb, 0, none⟩) m m]).heap[bb]? = some (bytesObj l)) := (setRow_other _ _ _ (by have := HQ.out.1; omega)).trans HQ.out.2.1
  have HQ2 : Hid (Below w.heap.size w (w1.setRow w.heap.size #[.int .u16 a, .int .u16 b, .bool p, .slice (some ⟨bb, 0, none⟩) m m])) := ((Fr.of_below (p := fun _ => False) HQ.out.2.2).row (Nat.le_refl _) _).below (Nat.le_refl _) (fun _ h => h.elim)
  have f1 := hn2.cell
  have f2 := hn2.free
  have HZ2 := Lib.hid hz2
  clear hz2 hn2 HN1
  go_wp2_with (refine wpList_store_row rfl 25 (.tmp 2) (.tmp 6) rfl w.heap.size #[.int .u16 a, .int .u16 b, .bool p, .slice (some ⟨bb, 0, none⟩) m m] rfl rfl 25 _ HZ1.out dgSize rfl (by simp [Value.oneCell']) ?_)
  generalize w1.setRow w.heap.size #[.int .u16 a, .int .u16 b, .bool p, .slice (some ⟨bb, 0, none⟩) m m] = w2 at *
  have hz3 : (w2.setCell ⟨w.heap.size + 1, 0, none⟩ .nilIface).heap[w.heap.size]? = some (.cells #[.int .u16 a, .int .u16 b, .bool p, .slice (some ⟨bb, 0, none⟩) m m] 25) := set_block HZ2.out (Nat.ne_of_lt (Nat.lt_succ_self _)) _
  have f1 : (w2.setCell ⟨w.heap.size + 1, 0, none⟩ .nilIface).cell? ⟨w.heap.size + 1, 0, none⟩ = some .nilIface := World.cell?_setCell_same _ _ _ f1
  refine leaves_cons (f := 27) (args := #[.pointer (some ⟨w.heap.size + 1, 0, none⟩)]) (by simp) (by simp [go_sem]) ?_
  refine (catchD_idle (w.heap.size + 1) _).mono ?_
  rintro e u' w'' ⟨rfl, rfl, rfl⟩
  show ∃ v, _ ∧ _
  refine ⟨.tuple #[.agg #[.int .u16 a, .int .u16 b, .bool p, .slice (some ⟨bb, 0, none⟩) m m], .nilIface], results_row_cell rfl _ _ w.heap.size _ _ _ _ rfl hz3 Tryd.underlying25 rfl dgSize ⟨w.heap.size + 1, 0, none⟩ rfl _ (load_err f1), ?_⟩
  exact ⟨_, rfl, Nat.le_of_lt (Nat.lt_of_succ_lt HQ.out.1), set_block HO2.out (Nat.ne_of_gt HQ.out.1) _, HQ2.out.setCell (p := ⟨w.heap.size + 1, 0, none⟩) (Nat.le_succ _) _⟩
set_option maxRecDepth 100000 in
set_option maxHeartbeats 2000000 in
theorem untilD_bad (p3 p4 p5 : Addr) (n : Int) (l : List ByteArray) (w : World) (hX : Calls Tryd.prog 17 #[.pointer (some p3), .pointer (some p4), .pointer (some p5)] ((w.alloc noDgObj).alloc (.cells #[.nilIface] 29)) (PErr n l ((w.alloc noDgObj).alloc (.cells #[.nilIface] 29)))) :
    Calls Tryd.prog 16 #[.func (.func 17) #[] #[.pointer (some p3), .pointer (some p4), .pointer (some p5)]] w (ToldErr (.agg noDgRow) n (udpWord :: l) w) := by
  have hmf : ∀ (fn : Fn) (first cap : Array Value) (w : World), (Instr.makeFunc fn first cap).run Tryd.prog w = .ok (.func fn first cap) w := fun _ _ _ _ => rfl
  have HN : Hid (NilAt ((w.alloc noDgObj).alloc (.cells #[.nilIface] 29)) (w.heap.size + 1)) := by
    have h := nilAt_new (w.alloc noDgObj)
    rw [World.size_alloc] at h
    exact h
  have HB := Lib.hid (below_al (below_al (Below.refl w.heap.size w) noDgObj) (.cells #[.nilIface] 29))
  have HZ : Hid (((w.alloc noDgObj).alloc (.cells #[.nilIface] 29)).heap[w.heap.size]? = some (.cells noDgRow 25)) := be_block (below_al (Below.refl _ _) _) (heap_alloc_new w _)
  have HX := Lib.hid hX
  clear hX
  generalize hW : ((w.alloc noDgObj).alloc (.cells #[.nilIface] 29)) = W0 at *
  unfold noDgObj at hW
  unfold PErr at HX
  unfold ToldErr
  go_enter_defers Tryd.func16, Tryd.ntmps16
  go_upto_region 1 with fail
  (try rw [hW])
  clear hW
  go_wp2_with fail
  refine HX.out.mono ?_
  rintro e w1 ⟨T, u, rfl, h1, h2⟩
  have HZ1 := Lib.hid (be_block h2 HZ.out)
  have HN1 : Hid (NilAt w1 (w.heap.size + 1)) := be_block h2 HN.out
  have HC := Lib.hid h1
  have HQ := Lib.hid (below_to HB.out h2 HB.out.size)
  clear h1 h2 HX HN HB HZ
  go_wp2_with fail
  refine leaves_cons (f := 27) (args := #[.pointer (some ⟨w.heap.size + 1, 0, none⟩)]) (by simp) (by simp [go_sem]) ?_
  refine (catchD_panicking (w.heap.size + 1) T u [] _ HN1.out).mono ?_
  rintro e u' w'' ⟨rfl, rfl, b, f1, h2, h3⟩
  have HC2 := Lib.hid (h2 n l HC.out)
  have HQ2 := Lib.hid (below_to HQ.out (h3.mono (Nat.le_succ _)) (Nat.le_refl _))
  have hz3 : w''.heap[w.heap.size]? = some (.cells noDgRow 25) := (h3.block _ (Nat.lt_succ_self _)).trans HZ1.out
  clear h2 h3 HC HQ HN1 HZ1
  show ∃ v, _ ∧ _
  refine ⟨.tuple #[.agg noDgRow, .iface 98 (.pointer (some ⟨b, 0, none⟩))], results_row_cell rfl _ _ w.heap.size _ _ _ _ rfl hz3 Tryd.underlying25 rfl dgSize ⟨w.heap.size + 1, 0, none⟩ rfl _ (load_err f1), ?_⟩
  exact ⟨_, rfl, HC2.out, HQ2.out⟩
end Go.Proofs.YtikcnlcpbifobaaDoor
