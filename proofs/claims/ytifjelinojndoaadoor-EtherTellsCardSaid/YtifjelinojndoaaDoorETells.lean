/-
  What is proved: parts of the law EtherTells: what Parse and the document's Parse answer of one row of bytes, side by side.
  Conditions: none of their own.
-/
import Derived.Test.YtifjelinojndoaaDoorERefB
import Derived.Deep.RegionHeldLaw
import Derived.Deep.CutBlock
namespace Go.Proofs.YtifjelinojndoaaDoor
open Go.RowKit

def zeroFrm : Frm := ⟨.zero, .zero, 0, 0, []⟩
theorem zeroObj_eq : Frm.obj zeroFrm (.slice none 0 0) = noObj := rfl
/-- What both Parses answer of bytes that are no frame. -/
structure NoFrm (ls : List UInt8) (m : Nat) (k : List ByteArray) (t : ByteArray) : Prop where
  num : m < 14
  few : (text m k).size ≤ 1000000000
  said : text m k = t
  ne : t.toList.isEmpty = false
  parse : ∀ (v : Value) (w : World), Rd w v ls → Calls Tryd.prog 5 #[v] w fun e w' => ∃ b, e = .returned (.tuple #[.agg #[.int .u8 0, .int .u8 0, .int .u8 0, .int .u8 0, .int .u8 0, .int .u8 0, .int .u8 0, .int .u8 0, .int .u8 0, .int .u8 0, .int .u8 0, .int .u8 0, .int .i64 0, .int .u16 0, .slice none 0 0], .iface 64 (.pointer (some ⟨b, 0, none⟩))]) ∧ Chain w' m k (.iface 64 (.pointer (some ⟨b, 0, none⟩))) ∧ Below w.heap.size w w'
  ref : ∀ w : World, Calls Tryd.prog 6 #[.string (Go.Proofs.YtifjelinojndoaaDoor.txt ls)] w fun e w' => e = .returned (.tuple #[.agg #[.string ⟨#[]⟩, .string ⟨#[]⟩, .int .i64 0, .int .u32 0, .string ⟨#[]⟩], .string t]) ∧ Below w.heap.size w w'
theorem NoFrm.told {ls : List UInt8} {m : Nat} {k : List ByteArray} {t : ByteArray} (h : NoFrm ls m k t) {v : Value} {W : World} (hc : Chain W m k v) :
    Calls Tryd.prog 7 #[v] W fun e w' => e = .returned (.string t) ∧ Below W.heap.size W w' := by
  refine (told_any m h.num k v W h.few hc).mono ?_
  rintro e w' ⟨rfl, n, rfl⟩
  exact ⟨by rw [h.said], ⟨rfl, rfl, rfl, Nat.le_refl _, fun _ _ => rfl⟩⟩
theorem build_nofrm (W : World) : (Instr.build 27 #[]).run Tryd.prog W = .ok (.agg #[.int .u8 0, .int .u8 0, .int .u8 0, .int .u8 0, .int .u8 0, .int .u8 0, .int .u8 0, .int .u8 0, .int .u8 0, .int .u8 0, .int .u8 0, .int .u8 0, .int .i64 0, .int .u16 0, .slice none 0 0]) W := run_build W _ _ _ (by kernel_rfl)
theorem of_zero (W : World) : Calls Tryd.prog 8 #[.agg #[.int .u8 0, .int .u8 0, .int .u8 0, .int .u8 0, .int .u8 0, .int .u8 0, .int .u8 0, .int .u8 0, .int .u8 0, .int .u8 0, .int .u8 0, .int .u8 0, .int .i64 0, .int .u16 0, .slice none 0 0]] W fun e w' => e = .returned (.agg #[.string (Go.Proofs.YtifjelinojndoaaDoor.txt M6.zero.bs), .string (Go.Proofs.YtifjelinojndoaaDoor.txt M6.zero.bs), .int .i64 0, .int .u32 0, .string (Go.Proofs.YtifjelinojndoaaDoor.txt [])]) ∧ Below W.heap.size W w' :=
  of_any zeroFrm none 0 W (by decide) (Rd.nil W)
/-- Each row of bytes is none, or one frame's. -/
theorem frm_or_none (ls : List UInt8) : (∃ m k t, NoFrm ls m k t) ∨ ∃ f : Frm, f.Ok ∧ ls = f.bs ∧ ls.length ≤ 9000 := by
  by_cases h9 : ls.length ≤ 9000
  · rcases frm_split ls with hs | ⟨f, hf, hls⟩
    · exact .inl ⟨2, [etherWord, octetsWord], etherShort, by decide, by decide, rfl, by rw [ByteArray.toList_eq]; rfl, fun v w hr => Parse_short v ls w hr h9 hs, fun w => refParse_short ls (short_shape hs) w⟩
    · exact .inr ⟨f, hf, hls, h9⟩
  · exact .inl ⟨7, [etherWord], ether7, by decide, by decide, rfl, by rw [ByteArray.toList_eq]; rfl, fun v w hr => Parse_big v ls w hr (by omega), fun w => refParse_big ls (by omega) w⟩

/-- Behind Parse: no frame. -/
structure PErrAt (m : Nat) (k : List ByteArray) (w2 : World) (gx : Nat) (e : Value) (W : World) : Prop where
  old : Below w2.heap.size w2 W
  new : w2.heap.size ≤ gx
  box : BoxAt W gx zeroFrm (.slice none 0 0)
  chain : Chain W m k e
/-- Behind Parse: a frame. -/
structure POkAt (f : Frm) (b2 : Nat) (w2 : World) (gx : Nat) (W : World) : Prop where
  old : Below w2.heap.size w2 W
  new : w2.heap.size ≤ gx
  box : BoxAt W gx f (.slice (some ⟨b2, 0, none⟩) f.b.length f.b.length)
  row : W.heap[b2]? = some (bytesObj f.b)
  newb : w2.heap.size ≤ b2
  ne : b2 ≠ gx
  few : f.b.length ≤ 9000
theorem PErrAt.below {m : Nat} {k : List ByteArray} {w2 W W' : World} {gx : Nat} {e : Value} (h : PErrAt m k w2 gx e W) (hb : Below W.heap.size W W') : PErrAt m k w2 gx e W' := ⟨below_to h.old hb h.old.size, h.new, h.box.below hb, h.chain.below hb⟩
theorem POkAt.below {f : Frm} {b2 : Nat} {w2 W W' : World} {gx : Nat} (h : POkAt f b2 w2 gx W) (hb : Below W.heap.size W W') : POkAt f b2 w2 gx W' := ⟨below_to h.old hb h.old.size, h.new, h.box.below hb, (hb.block _ (Array.getElem?_eq_some_iff.1 h.row).1).trans h.row, h.newb, h.ne, h.few⟩
def Parsed (ls : List UInt8) (w2 : World) (gx : Nat) (e : Value) (W : World) : Prop :=
  (∃ m k t, NoFrm ls m k t ∧ PErrAt m k w2 gx e W) ∨ ∃ f b2, f.Ok ∧ ls = f.bs ∧ ls.length ≤ 9000 ∧ e = .nilIface ∧ POkAt f b2 w2 gx W
/-- Behind the document's Parse. -/
def Parsed2 (ls : List UInt8) (w2 : World) (gx gy : Nat) (e : Value) (t : Value) (W : World) : Prop :=
  (∃ m k tx, NoFrm ls m k tx ∧ PErrAt m k w2 gx e W ∧ t = .string tx) ∨ ∃ f b2, f.Ok ∧ e = .nilIface ∧ t = .string ⟨#[]⟩ ∧ POkAt f b2 w2 gx W ∧ RefAt W gy (txt f.dst.bs) (txt f.src.bs) f.vlan f.ty (txt f.b)
/-- Behind the tests: the answer's box, and the row that it holds. -/
structure TellsAt (w2 : World) (gx bb n cx : Nat) (f : Frm) (Bx : Option Addr) (W : World) : Prop where
  old : Below w2.heap.size w2 W
  box : BoxAt W gx f (.slice Bx n cx)
  row : 0 < n → Bx = some ⟨bb, 0, none⟩ ∧ Any W bb n
def Parsed3 (w2 : World) (gx : Nat) (W : World) : Prop :=
  ∃ (f : Frm) (Bx : Option Addr) (n cx bb : Nat), n ≤ 9000 ∧ n ≤ cx ∧ w2.heap.size ≤ bb ∧ bb ≠ gx ∧ w2.heap.size ≤ gx ∧ TellsAt w2 gx bb n cx f Bx W
theorem any_of_obj {W : World} {b : Nat} {l : List UInt8} (h : W.heap[b]? = some (bytesObj l)) : Any W b l.length := ⟨_, h, by simp⟩
theorem PErrAt.three {m : Nat} {k : List ByteArray} {w2 W : World} {gx : Nat} {e : Value} (h : PErrAt m k w2 gx e W) : Parsed3 w2 gx W := ⟨zeroFrm, none, 0, 0, gx + 1, by omega, by omega, (by have := h.new; omega), by omega, h.new, h.old, h.box, (fun e => by omega)⟩
theorem POkAt.three {f : Frm} {b2 : Nat} {w2 W : World} {gx : Nat} (h : POkAt f b2 w2 gx W) : Parsed3 w2 gx W := ⟨f, some ⟨b2, 0, none⟩, f.b.length, f.b.length, b2, h.few, Nat.le_refl _, h.newb, h.ne, h.new, h.old, h.box, (fun _ => ⟨rfl, any_of_obj h.row⟩)⟩
theorem TellsAt.set {w2 : World} {gx bb n cx : Nat} {f : Frm} {Bx : Option Addr} {W : World} (h : TellsAt w2 gx bb n cx f Bx W) (hbb : w2.heap.size ≤ bb) (hne : bb ≠ gx) (k : Nat) (v : Value) : TellsAt w2 gx bb n cx f Bx (W.setCell ⟨bb, k, none⟩ v) :=
  ⟨h.old.setCell (p := ⟨bb, k, none⟩) hbb v, (Below.heap_setCell _ _ _ _ (fun e => hne e.symm)).trans h.box, fun h0 => ⟨(h.row h0).1, (h.row h0).2.set k v⟩⟩
/-- Bytes that were answered, in the loop that writes over them. -/
structure SecAt (w2 : World) (bb n : Nat) (C : Option Addr) (W : World) : Prop where
  old : Below w2.heap.size w2 W
  row : 0 < n → C = some ⟨bb, 0, none⟩ ∧ Any W bb n
theorem SecAt.set {w2 : World} {bb n : Nat} {C : Option Addr} {W : World} (h : SecAt w2 bb n C W) (hbb : w2.heap.size ≤ bb) (k : Nat) (v : Value) : SecAt w2 bb n C (W.setCell ⟨bb, k, none⟩ v) :=
  ⟨h.old.setCell (p := ⟨bb, k, none⟩) hbb v, fun h0 => ⟨(h.row h0).1, (h.row h0).2.set k v⟩⟩
theorem sec_of {w2 W X : World} {C : Option Addr} {out : List UInt8} (hc : (out = [] ∧ C = none) ∨ ∃ b, C = some ⟨b, 0, none⟩ ∧ w2.heap.size ≤ b ∧ W.heap[b]? = some (bytesObj out)) (hl : Below w2.heap.size w2 W) (hx : Below W.heap.size W X) :
    ∃ bb, w2.heap.size ≤ bb ∧ SecAt w2 bb out.length C X := by
  rcases hc with ⟨rfl, rfl⟩ | ⟨b, rfl, hb, ho⟩
  · exact ⟨w2.heap.size, Nat.le_refl _, below_to hl hx hl.size, fun h => absurd h (by simp)⟩
  · exact ⟨b, hb, below_to hl hx hl.size, fun _ => ⟨rfl, any_of_obj ((hx.block _ (Array.getElem?_eq_some_iff.1 ho).1).trans ho)⟩⟩
theorem group_any (m : M6) (w : World) :
    Calls Tryd.prog 11 #[.agg #[.int .u8 m.a.toNat, .int .u8 m.b.toNat, .int .u8 m.c.toNat, .int .u8 m.d.toNat, .int .u8 m.e.toNat, .int .u8 m.f.toNat]] w fun e w' => e = .returned (.bool ((m.a.toNat : Int) % 2 == 1)) ∧ Below w.heap.size w w' := by
  have ha := and_one m.a.toNat m.a.toNat_lt
  go_enter Tryd.func11, Tryd.ntmps11
  go_wp2_with fail
  go_ret
  exact ⟨rfl, (Below.refl _ _).alloc (Nat.le_refl _) _⟩

/-- One box under letters, and 'of' of it. -/
theorem of_letters {Y : World} {dst src : M6} {vlan : Int} {ty : Nat} {b : List UInt8} {A : Option Addr} {c G : Nat} (rv : Value) (hrv : rv = .agg (refRow ⟨dst, src, vlan, ty, b⟩)) (hty : ty < 65536)
    (hA : BoxAt Y G ⟨dst, src, vlan, ty, b⟩ (.slice A b.length c)) (hrA : Rd Y (.slice A b.length c) b) :
    ∃ y0 y1 y2 y3 y4 y5 y6 y7 y8 y9 y10 y11 y12 y13 : Value, (∀ W, Below Y.heap.size Y W → W.cell? ⟨G, 0, none⟩ = some y0 ∧ W.cell? ⟨G, 1, none⟩ = some y1 ∧ W.cell? ⟨G, 2, none⟩ = some y2 ∧ W.cell? ⟨G, 3, none⟩ = some y3 ∧ W.cell? ⟨G, 4, none⟩ = some y4 ∧ W.cell? ⟨G, 5, none⟩ = some y5 ∧ W.cell? ⟨G, 6, none⟩ = some y6 ∧ W.cell? ⟨G, 7, none⟩ = some y7 ∧ W.cell? ⟨G, 8, none⟩ = some y8 ∧ W.cell? ⟨G, 9, none⟩ = some y9 ∧ W.cell? ⟨G, 10, none⟩ = some y10 ∧ W.cell? ⟨G, 11, none⟩ = some y11 ∧ W.cell? ⟨G, 12, none⟩ = some y12 ∧ W.cell? ⟨G, 13, none⟩ = some y13 ∧ W.cell? ⟨G, 14, none⟩ = some (.slice A b.length c)) ∧
      ∀ W, Below Y.heap.size Y W → Calls Tryd.prog 8 #[.agg #[y0, y1, y2, y3, y4, y5, y6, y7, y8, y9, y10, y11, y12, y13, .slice A b.length c]] W fun e w' => e = .returned rv ∧ Below W.heap.size W w' := by
  subst hrv
  refine ⟨_, _, _, _, _, _, _, _, _, _, _, _, _, _, fun W hW => ?_, fun W hW => of_any ⟨dst, src, vlan, ty, b⟩ A c W hty (hrA.below hW)⟩
  obtain ⟨c0, c1, c2, c3, c4, c5, c6, c7, c8, c9, c10, c11, c12, c13, c14⟩ := (hA.below hW).cells
  exact ⟨c0, c1, c2, c3, c4, c5, c6, c7, c8, c9, c10, c11, c12, c13, c14⟩
end Go.Proofs.YtifjelinojndoaaDoor
