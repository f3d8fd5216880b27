/-
  What is proved: whole blocks: a struct that is loaded from, and stored into, a block of its own, as laws of the walk; what a store into a block leaves.
  Conditions: none of its own.
-/
import Derived.Test.YtjnhfabgdegngaaDoorAt
namespace Go.Proofs.YtjnhfabgdegngaaDoor
open Go.RowKit

section
variable {w w' : World} {g : Nat} {cs old : Array Value} {t : TypeId} {fr : Nat × Nat}
theorem setRow_other (w : World) (g : Nat) (cs : Array Value) {k : Nat} (h : k ≠ g) : (w.setRow g cs).heap[k]? = w.heap[k]? := by
  unfold World.setRow
  simp only [Array.getElem?_modify]
  rw [if_neg (Ne.symm h)]
theorem setRow_size (w : World) (g : Nat) (cs : Array Value) : (w.setRow g cs).heap.size = w.heap.size := by
  unfold World.setRow
  simp
/-- A store into a whole block turns no other block. -/
theorem Fr.of_row (w : World) (g : Nat) (cs : Array Value) : Fr (fun a => a.block = g) w (w.setRow g cs) :=
  ⟨rfl, rfl, rfl, by rw [setRow_size]; exact Nat.le_refl _, fun a _ hn => World.cell?_of_block (setRow_other w g cs hn), fun a _ hn => World.frozen?_of_block (setRow_other w g cs hn),
   fun k _ hn => setRow_other w g cs (fun e => hn ⟨g, 0, none⟩ rfl e.symm)⟩
theorem Fr.row {p : Addr → Prop} {a : World} (h : Fr p a w) (hg : a.heap.size ≤ g) (cs : Array Value) : Fr p a (w.setRow g cs) :=
  h.then (Fr.of_row w g cs) (fun x hx hl => absurd hx (by omega))
theorem results_cell_tmp_row {P : Program} {fn : Func} {p u : Tmp} {ty : TypeId} (h : fn.results = #[.cell p ty, .tmp u]) (tmps : Array Value) (w : World) (g : Nat) (t : TypeId) (cs : Array Value) (fr : Nat × Nat) (d : TypeDesc)
    (hp : tmps.getD p undef = .pointer (some ⟨g, 0, none⟩)) (hg : w.heap[g]? = some (.cells cs t fr))
    (hu : P.underlying ty = some d) (hd : (match d with | .struct _ | .array _ _ => true | _ => false) = true) (hi : (P.info? ty).map (·.size) = some cs.size) :
    (results fn tmps).run P w = .ok (.tuple #[.agg cs, tmps.getD u undef]) w := by
  rw [results_cell_tmp h, hp]
  simp [asAddr, run_loadVar_row w g t ty cs fr d hg hu hd hi]
/-- The store of a whole struct, as a region's step. -/
theorem step_store_row {P : Program} {ops : Array Oper} {o : Oper} {a : Act} {w : World} {K : Act → World → Prop} {Q : Exit → Act → World → Prop} {E : Prop} (hgd : o.guard = none) (ty : TypeId) (x y : Operand) (ho : o.op = .store ty x y)
    (g : Nat) (cells : Array Value) (hx : a.eval x = .pointer (some ⟨g, 0, none⟩)) (hy : a.eval y = .agg cells)
    (t : TypeId) (old : Array Value) (hg : w.heap[g]? = some (.cells old t (0, 0))) (hi : (P.info? ty).map (·.size) = some cells.size)
    (hold : old.size = cells.size) (h1 : cells.all (·.oneCell') = true) (hd : o.dst = none)
    (h : K (a.put none undef) (w.setRow g cells)) :
    if Region.wanted o (yielded ops a.tmps) = true then Oper.wp P o a w K Q else E := by
  have hw : Region.wanted o (yielded ops a.tmps) = true := by simp [Region.wanted, hgd]
  rw [if_pos hw]
  exact wp_store_row ty x y ho g cells hx hy t old hg hi hold h1 (by rw [hd]; exact h)
/-- The load of a whole struct, as a region's step. -/
theorem step_load_row {P : Program} {ops : Array Oper} {o : Oper} {a : Act} {w : World} {K : Act → World → Prop} {Q : Exit → Act → World → Prop} {E : Prop} (hgd : o.guard = none) (ty : TypeId) (x : Operand) (ho : o.op = .load ty x)
    (g : Nat) (hx : a.eval x = .pointer (some ⟨g, 0, none⟩)) (t : TypeId) (cs : Array Value) (fr : Nat × Nat) (d : TypeDesc) (hg : w.heap[g]? = some (.cells cs t fr))
    (hu : P.underlying ty = some d) (hd : (match d with | .struct _ | .array _ _ => true | _ => false) = true) (hi : (P.info? ty).map (·.size) = some cs.size) (dst : Nat) (hdst : o.dst = some dst)
    (h : K (a.put (some dst) (.agg cs)) w) :
    if Region.wanted o (yielded ops a.tmps) = true then Oper.wp P o a w K Q else E := by
  have hw : Region.wanted o (yielded ops a.tmps) = true := by simp [Region.wanted, hgd]
  rw [if_pos hw]
  exact wp_load_row ty x ho g hx t cs fr d hg hu hd hi (by rw [hdst]; exact h)
end
/-- A chain of errors over a frame in which neither a text nor an error was written. -/
theorem Chain.fr2 {q : Addr → Prop} {w w' : World} {n : Int} (hf : Fr q w w') (hs : ∀ a s, q a → w.cell? a ≠ some (.string s)) (hi : ∀ a T u, q a → w.cell? a ≠ some (.iface T u)) :
    ∀ {l : List ByteArray} {v : Value}, Chain w n l v → Chain w' n l v
  | [], _, h => h
  | _ :: _, _, ⟨b, x, hv, h0, h1, h2⟩ => by
    obtain ⟨T, u, hx⟩ := h2.held
    refine ⟨b, x, hv, (hf.cell _ (World.block_lt_of_cell? w _ h0) (fun e => hs _ _ e h0)).trans h0, (hf.cell _ (World.block_lt_of_cell? w _ h1) (fun e => hi _ T u e (by rw [h1, hx]))).trans h1, Chain.fr2 hf hs hi h2⟩
/-- A block that holds neither a text nor an error. -/
def Plain (cs : Array Value) : Prop := ∀ v ∈ cs.toList, (∀ s, v ≠ .string s) ∧ ∀ T u, v ≠ .iface T u
theorem Plain.cell {w : World} {a : Addr} {cs : Array Value} {t : TypeId} {fr : Nat × Nat} (h : Plain cs) (hg : w.heap[a.block]? = some (.cells cs t fr)) : (∀ s, w.cell? a ≠ some (.string s)) ∧ ∀ T u, w.cell? a ≠ some (.iface T u) := by
  have key : ∀ v, w.cell? a = some v → v ∈ cs.toList := by
    intro v hv
    unfold World.cell? at hv
    rw [hg] at hv
    simp only at hv
    split at hv
    · cases hv
    · exact Array.mem_toList_iff.2 (Array.mem_of_getElem? hv)
  exact ⟨fun s e => (h _ (key _ e)).1 s rfl, fun T u e => (h _ (key _ e)).2 T u rfl⟩
theorem Chain.row {w : World} {n : Int} {l : List ByteArray} {v : Value} (h : Chain w n l v) {g : Nat} {cs old : Array Value} {t : TypeId} (hg : w.heap[g]? = some (.cells old t (0, 0))) (hp : Plain old) : Chain (w.setRow g cs) n l v :=
  h.fr2 (Fr.of_row w g cs) (fun a s e => (Plain.cell (a := a) hp (by rw [e]; exact hg)).1 s) (fun a T u e => (Plain.cell (a := a) hp (by rw [e]; exact hg)).2 T u)
end Go.Proofs.YtjnhfabgdegngaaDoor
