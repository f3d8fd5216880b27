/-
  What is proved: what Bytes and the document's Bytes answer of one frame, side by side.
  Conditions: the frame has at most ten thousand bytes.
-/
import Derived.Test.YtifjelinojndoaaDoorETells
namespace Go.Proofs.YtifjelinojndoaaDoor
open Go.RowKit

theorem set_block {W : World} {G g i : Nat} {o : Obj} (h : W.heap[G]? = some o) (hne : G ≠ g) (v : Value) : (W.setCell ⟨g, i, none⟩ v).heap[G]? = some o := (Below.heap_setCell _ _ _ _ hne).trans h
theorem rd_set {W : World} {G n c : Nat} {bs : List UInt8} (h : Rd W (.slice (some ⟨G, 0, none⟩) n c) bs) {g : Nat} (hne : G ≠ g) (i : Nat) (x : Value) : Rd (W.setCell ⟨g, i, none⟩ x) (.slice (some ⟨G, 0, none⟩) n c) bs := by
  obtain ⟨A, c', e, hc, hi⟩ := h
  refine ⟨A, c', e, hc, fun h0 => ?_⟩
  obtain ⟨g', o, e1, hi⟩ := hi h0
  refine ⟨g', o, e1, fun j u hu => ?_⟩
  cases e
  cases e1
  rw [World.cell?_setCell_other _ _ _ _ (fun e => hne (by injection e with h1 h2 h3; first | exact h1 | exact h1.symm))]
  exact hi j u hu
/-- What is told of an answer's error. -/
def FTold (ev : Value) (t : ByteArray) (W : World) : Prop := ∀ W', Below W.heap.size W W' → Calls Tryd.prog 7 #[ev] W' fun e w' => e = .returned (.string t) ∧ Below W'.heap.size W' w'
/-- Both answers of a frame. -/
structure FB (f : Frm) (out : List UInt8) (t : ByteArray) : Prop where
  few : out.length ≤ 9000
  bytes : ∀ (A : Option Addr) (c : Nat) (w : World), Rd w (.slice A f.b.length c) f.b → Calls Tryd.prog 9 #[.agg #[.int .u8 f.dst.a.toNat, .int .u8 f.dst.b.toNat, .int .u8 f.dst.c.toNat, .int .u8 f.dst.d.toNat, .int .u8 f.dst.e.toNat, .int .u8 f.dst.f.toNat, .int .u8 f.src.a.toNat, .int .u8 f.src.b.toNat, .int .u8 f.src.c.toNat, .int .u8 f.src.d.toNat, .int .u8 f.src.e.toNat, .int .u8 f.src.f.toNat, .int .i64 f.vlan, .int .u16 f.ty, .slice A f.b.length c]] w fun e w' => ∃ (C : Option Addr) (cc : Nat) (ev : Value), e = .returned (.tuple #[.slice C out.length cc, ev]) ∧
    ((out = [] ∧ C = none) ∨ ∃ b, C = some ⟨b, 0, none⟩ ∧ w.heap.size ≤ b ∧ w'.heap[b]? = some (bytesObj out)) ∧ Rd w' (.slice C out.length cc) out ∧ FTold ev t w' ∧ Below w.heap.size w w'
  ref : ∀ w : World, Calls Tryd.prog 10 #[.agg (refRow f)] w fun e w' => e = .returned (.tuple #[.string (Go.Proofs.YtifjelinojndoaaDoor.txt out), .string t]) ∧ Below w.heap.size w w'
theorem fb_err {f : Frm} {n : Nat} {t : ByteArray} (hn : n < 14) (hs : (text n [etherWord]).size ≤ 1000000000) (ht : text n [etherWord] = t)
    (hb : ∀ (A : Option Addr) (c : Nat) (w : World), Calls Tryd.prog 9 #[f.val (.slice A f.b.length c)] w (EErr n w))
    (hr : ∀ w : World, Calls Tryd.prog 10 #[.agg (refRow f)] w fun e w' => e = .returned (.tuple #[.string ⟨#[]⟩, .string t]) ∧ Below w.heap.size w w') : FB f [] t := by
  refine ⟨by simp, fun A c w _ => ?_, hr⟩
  have h := hb A c w
  rw [Frm.val_lit] at h
  refine h.mono ?_
  rintro e w' ⟨b, rfl, hc, hl⟩
  refine ⟨none, 0, _, rfl, .inl ⟨rfl, rfl⟩, Rd.nil w', fun W' h => ?_, hl⟩
  refine (told_any n hn [etherWord] _ W' hs (hc.below h)).mono ?_
  rintro e w'' ⟨rfl, k, rfl⟩
  exact ⟨by rw [ht], ⟨rfl, rfl, rfl, Nat.le_refl _, fun _ _ => rfl⟩⟩
theorem fb_any (f : Frm) (hty : f.ty < 65536) (hb : f.b.length ≤ 10000) : ∃ out t, FB f out t := by
  rcases f.ok_or_bad hty with hf | hf
  · have hl := f.bs_len
    by_cases hn : f.bs.length ≤ 9000
    · refine ⟨f.bs, ⟨#[]⟩, hn, fun A c w hr => ?_, fun w => refBytes_ok f hf hn w⟩
      have h := fBytes_ok f hf A c w hr hn
      rw [Frm.val_lit] at h
      refine h.mono ?_
      rintro e w' ⟨b, rfl, h1, h2, h3⟩
      refine ⟨_, _, _, rfl, .inr ⟨b, rfl, h1, h2⟩, Rd.of_obj h2 (Nat.le_refl _), fun W' _ => ?_, h3⟩
      refine (told_nil W').mono ?_
      rintro e w'' ⟨rfl, rfl⟩
      exact ⟨rfl, Below.refl _ _⟩
    · exact ⟨[], ether7, fb_err (by decide) (by decide) rfl (fun A c w => fBytes_big f hf A f.b.length c (by omega) (by omega) w) (fun w => refBytes_big f hf (by omega) (by omega) w)⟩
  · exact ⟨[], ether1, fb_err (by decide) (by decide) rfl (fun A c w => fBytes_arg f hf A f.b.length c w) (fun w => refBytes_bad f hf w)⟩
end Go.Proofs.YtifjelinojndoaaDoor
