/-
  What is proved: ether's readFrame, of bytes that are a frame, by contract.
  Conditions: the reader holds fewer than 2^40 bytes.
-/
import Derived.Test.YtifjelinojndoaaDoorEFrame
import Derived.Deep.RegionLaw
namespace Go.Proofs.YtifjelinojndoaaDoor
open Go.RowKit

theorem macSize : (Tryd.prog.info? 24).map (·.size) = some 6 := by kernel_rfl
/-- What Rest leaves, beside blocks that were there. -/
theorem rest_facts (p : Addr) (bs : List UInt8) (w : World) (h : Rdr w p bs) (hL : bs.length ≤ 1099511627776) (n R D S : Nat) (oR oD oS : Obj) (hp : p.block < n) (hn : n ≤ R) (hn1 : n ≤ D) (hn2 : n ≤ S)
    (hR : w.heap[R]? = some oR) (hD : w.heap[D]? = some oD) (hS : w.heap[S]? = some oS) :
    Calls Tryd.prog 26 #[.pointer (some p)] w fun e w' => e = .returned (.slice (some ⟨w.heap.size, 0, none⟩) bs.length bs.length) ∧
      w'.heap[R]? = some oR ∧ w'.heap[D]? = some oD ∧ w'.heap[S]? = some oS ∧ w'.heap[w.heap.size]? = some (bytesObj bs) ∧ Fr (· = p) w w' := by
  refine (Rest_any p bs w h hL).mono ?_
  rintro e w' ⟨rfl, ht⟩
  have key : ∀ k o, n ≤ k → w.heap[k]? = some o → w'.heap[k]? = some o := fun k o hk ho => (ht.fr.block k (Array.getElem?_eq_some_iff.1 ho).1 (fun a ha => by subst ha; omega)).trans ho
  refine ⟨rfl, key R _ hn hR, key D _ hn1 hD, key S _ hn2 hS, ?_, ht.fr⟩
  have := ht.part
  rwa [List.take_length] at this

theorem noObj_cells {w : World} {g : Nat} (h : w.heap[g]? = some noObj) :
    w.cell? ⟨g, 0, none⟩ = some (.int .u8 0) ∧ w.cell? ⟨g, 1, none⟩ = some (.int .u8 0) ∧ w.cell? ⟨g, 2, none⟩ = some (.int .u8 0) ∧ w.cell? ⟨g, 3, none⟩ = some (.int .u8 0) ∧ w.cell? ⟨g, 4, none⟩ = some (.int .u8 0) ∧ w.cell? ⟨g, 5, none⟩ = some (.int .u8 0) ∧ w.cell? ⟨g, 6, none⟩ = some (.int .u8 0) ∧ w.cell? ⟨g, 7, none⟩ = some (.int .u8 0) ∧ w.cell? ⟨g, 8, none⟩ = some (.int .u8 0) ∧ w.cell? ⟨g, 9, none⟩ = some (.int .u8 0) ∧ w.cell? ⟨g, 10, none⟩ = some (.int .u8 0) ∧ w.cell? ⟨g, 11, none⟩ = some (.int .u8 0) ∧ w.cell? ⟨g, 12, none⟩ = some (.int .i64 0) ∧ w.cell? ⟨g, 13, none⟩ = some (.int .u16 0) ∧ w.cell? ⟨g, 14, none⟩ = some (.slice none 0 0) ∧
    w.frozen? ⟨g, 0, none⟩ = false ∧ w.frozen? ⟨g, 1, none⟩ = false ∧ w.frozen? ⟨g, 2, none⟩ = false ∧ w.frozen? ⟨g, 3, none⟩ = false ∧ w.frozen? ⟨g, 4, none⟩ = false ∧ w.frozen? ⟨g, 5, none⟩ = false ∧ w.frozen? ⟨g, 6, none⟩ = false ∧ w.frozen? ⟨g, 7, none⟩ = false ∧ w.frozen? ⟨g, 8, none⟩ = false ∧ w.frozen? ⟨g, 9, none⟩ = false ∧ w.frozen? ⟨g, 10, none⟩ = false ∧ w.frozen? ⟨g, 11, none⟩ = false ∧ w.frozen? ⟨g, 12, none⟩ = false ∧ w.frozen? ⟨g, 13, none⟩ = false ∧ w.frozen? ⟨g, 14, none⟩ = false := by
  unfold noObj at h
  refine ⟨?_, ?_, ?_, ?_, ?_, ?_, ?_, ?_, ?_, ?_, ?_, ?_, ?_, ?_, ?_, ?_, ?_, ?_, ?_, ?_, ?_, ?_, ?_, ?_, ?_, ?_, ?_, ?_, ?_, ?_⟩
  all_goals first | (rw [cell_of_row w g _ _ _ _ h]; rfl) | (simp [World.frozen?, h])

set_option maxHeartbeats 2000000 in
theorem readFrame_ok (p : Addr) (g : Nat) (hpg : p.block ≠ g) (f : Frm) (hf : f.Ok) (w : World) (h : RdrG w p g f.bs) (hL : f.bs.length ≤ 1099511627776) :
    Calls Tryd.prog 14 #[.pointer (some p)] w fun e w' => ∃ b, e = .returned (.tuple #[f.val (.slice (some ⟨b, 0, none⟩) f.b.length f.b.length), .nilIface]) ∧ w.heap.size ≤ b ∧ w'.heap[b]? = some (bytesObj f.b) ∧ Fr (· = p) w w' := by
  have hp := h.at_
  have hb : Below w.heap.size w (w.alloc noObj) := below_al (Below.refl _ _) _
  have HT := Lib.hid (readAddress_ok p g hpg f.dst (f.src.bs ++ f.tail) (w.alloc noObj) (h.below hb) hL)
  have HL := Lib.hid hL
  have HOK := Lib.hid hf
  clear h hL hf
  go_enter Tryd.func14, Tryd.ntmps14
  go_wp2_with fail
  refine HT.out.mono ?_
  rintro e w1 ⟨rfl, hr, hf⟩
  clear HT
  have hs : w.heap.size < w1.heap.size := by have := hf.size; simp at this; omega
  have hR : w1.heap[w.heap.size]? = some noObj := (hf.block w.heap.size (by simp) (fun a ha => by subst ha; omega)).trans (heap_alloc_new w _)
  have hF : Fr (· = p) w w1 := (Fr.of_below hb).trans hf
  have HT := Lib.hid (readAddress_ok p g hpg f.src f.tail (w1.alloc f.dst.obj) (hr.below (below_al (Below.refl _ _) _)) (by have := HL.out; simp [Frm.bs, M6.bs] at this ⊢; omega))
  have HR := Lib.hid hR
  have HF := Lib.hid hF
  have HS := Lib.hid hs
  clear hR hF hf hb hs hr
  unfold M6.val
  go_wp2_with fail
  refine HT.out.mono ?_
  rintro e w2 ⟨rfl, hr, hf⟩
  clear HT
  have hs1 := HS.out
  have hs : w1.heap.size < w2.heap.size := by have := hf.size; simp at this; omega
  have hf1 : Fr (· = p) w1 w2 := (Fr.of_below (below_al (Below.refl _ _) _)).trans hf
  have hR : w2.heap[w.heap.size]? = some noObj := (hf1.block _ hs1 (fun a ha => by subst ha; omega)).trans HR.out
  have hD : w2.heap[w1.heap.size]? = some f.dst.obj := (hf.block w1.heap.size (by simp) (fun a ha => by subst ha; omega)).trans (heap_alloc_new w1 _)
  have hF : Fr (· = p) w w2 := HF.out.trans hf1
  have HT := Lib.hid (readType_ok p g hpg f HOK.out (w2.alloc f.src.obj) (hr.below (below_al (Below.refl _ _) _)) (by have := HL.out; simp [Frm.bs, M6.bs] at this ⊢; omega))
  clear HR HF HS
  have HR := Lib.hid hR
  have HD := Lib.hid hD
  have HF := Lib.hid hF
  have HS := Lib.hid (show w.heap.size < w1.heap.size ∧ w1.heap.size < w2.heap.size from ⟨hs1, hs⟩)
  clear hR hF hf hf1 hs hr hs1 hD
  unfold M6.val
  go_wp2_with fail
  refine HT.out.mono ?_
  rintro e w3 ⟨rfl, hr, hf⟩
  clear HT
  obtain ⟨hs1, hs2⟩ := HS.out
  have key : ∀ k o, w.heap.size ≤ k → (w2.alloc f.src.obj).heap[k]? = some o → w3.heap[k]? = some o := fun k o hk ho => (hf.block k (Array.getElem?_eq_some_iff.1 ho).1 (fun a ha => by subst ha; omega)).trans ho
  have hR : w3.heap[w.heap.size]? = some noObj := key _ _ (Nat.le_refl _) (by rw [heap_alloc_old _ _ (by omega)]; exact HR.out)
  have hD : w3.heap[w1.heap.size]? = some f.dst.obj := key _ _ (by omega) (by rw [heap_alloc_old _ _ (by omega)]; exact HD.out)
  have hS : w3.heap[w2.heap.size]? = some f.src.obj := key _ _ (by omega) (heap_alloc_new w2 _)
  have hF : Fr (· = p) w w3 := HF.out.trans ((Fr.of_below (below_al (Below.refl _ _) _)).trans hf)
  have HT := Lib.hid (rest_facts p f.b w3.drew hr.rdr (by have := HL.out; simp [Frm.bs, Frm.tail, M6.bs] at this ⊢; omega) w.heap.size w.heap.size w1.heap.size w2.heap.size noObj f.dst.obj f.src.obj hp (Nat.le_refl _) (by omega) (by omega) hR hD hS)
  clear HR HF HD
  have HR := Lib.hid hR
  have HD := Lib.hid hD
  have HSS := Lib.hid hS
  have HF := Lib.hid hF
  have HZ := Lib.hid (Array.getElem?_eq_some_iff.1 hR).1
  clear hR hF hf hr hD hS key hs1 hs2
  go_wp2_with fail
  obtain ⟨d0, d1, d2, d3, d4, d5⟩ := M6.cells HD.out
  obtain ⟨s0, s1, s2, s3, s4, s5⟩ := M6.cells HSS.out
  go_region_law (first | (go_simp; go_at_call 26; refine HT.out.mono ?_; rintro e w4 ⟨rfl, hR4, hD4, hS4, hB4, hF4⟩; obtain ⟨r0, r1, r2, r3, r4, r5, r6, r7, r8, r9, r10, r11, r12, r13, r14, z0, z1, z2, z3, z4, z5, z6, z7, z8, z9, z10, z11, z12, z13, z14⟩ := noObj_cells hR4; (have HB4 := Lib.hid hB4); (have HF4 := Lib.hid hF4); obtain ⟨d0', d1', d2', d3', d4', d5'⟩ := M6.cells hD4; obtain ⟨s0', s1', s2', s3', s4', s5'⟩ := M6.cells hS4; clear hR4 hB4 hF4 hD4 hS4))
  all_goals (go_wp2_with fail)
  all_goals (try simp only [Exit.inBlock, Exit.then])
  all_goals refine bodyPost_ret (v := .tuple #[f.val (.slice (some ⟨w3.heap.size, 0, none⟩) f.b.length f.b.length), .nilIface]) ?_ rfl ⟨w3.heap.size, rfl, Nat.le_of_lt HZ.out, ?_, ?_⟩
  all_goals first
    | (rw [results_cell_tmp rfl]; go_simp; rfl)
    | ((repeat (rw [Below.heap_setCell _ _ _ _ (Nat.ne_of_gt HZ.out)])); exact HB4.out)
    | (refine Fr.weaken (q := fun a => a = p ∨ w.heap.size ≤ a.block) ?_ (fun x hx hl => hx.resolve_right (by omega)); (repeat (refine Fr.set ?_ _ _ (Or.inr (Nat.le_refl _)))); exact (Fr.trans HF.out (Fr.trans (Fr.drewN (Fr.refl _ w3) 1) HF4.out)).weaken (fun _ h _ => Or.inl h))
end Go.Proofs.YtifjelinojndoaaDoor
