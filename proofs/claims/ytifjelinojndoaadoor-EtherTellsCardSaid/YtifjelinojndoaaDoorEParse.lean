/-
  What is proved: ether.Parse by contract.
  Conditions: the bytes are fewer than 2^40.
-/
import Derived.Test.YtifjelinojndoaaDoorEFrameOk
namespace Go.Proofs.YtifjelinojndoaaDoor
open Go.RowKit

def etherWord : ByteArray := ⟨#[101, 116, 104, 101, 114]⟩
theorem noFrm_lit : noFrm = .agg #[.int .u8 0, .int .u8 0, .int .u8 0, .int .u8 0, .int .u8 0, .int .u8 0, .int .u8 0, .int .u8 0, .int .u8 0, .int .u8 0, .int .u8 0, .int .u8 0, .int .i64 0, .int .u16 0, .slice none 0 0] := rfl
/-- Bytes that end too early for a frame. -/
def FShort (bs : List UInt8) : Prop := bs.length < 6 ∨ (∃ (d : M6) (r : List UInt8), bs = d.bs ++ r ∧ r.length < 6) ∨ (∃ (d s : M6) (r : List UInt8), bs = d.bs ++ (s.bs ++ r) ∧ TShort r)

theorem RdrG.of_Read (w : World) (bs : List UInt8) : RdrG ((w.alloc (bytesObj bs)).alloc (.cells #[.slice (some ⟨w.heap.size, 0, none⟩) bs.length bs.length] 73)) ⟨w.heap.size + 1, 0, none⟩ w.heap.size bs := by
  refine ⟨some ⟨w.heap.size, 0, none⟩, ?_, ?_, fun _ => ⟨0, rfl, fun i u hu => ?_⟩⟩
  · rw [World.cell?_alloc_at _ _ _ _ (by simp)]; rfl
  · simp
  · rw [World.cell?_alloc_lt _ _ _ (by simp), Nat.zero_add]
    exact bytesCell (bytesObj_new w bs) i u hu

theorem readFrame_short (p : Addr) (g : Nat) (hpg : p.block ≠ g) (bs : List UInt8) (hs : FShort bs) (w : World) (h : RdrG w p g bs) (hL : bs.length ≤ 1099511627776) :
    Calls Tryd.prog 14 #[.pointer (some p)] w fun e w' => ∃ b, e = .returned (.tuple #[noFrm, .iface 64 (.pointer (some ⟨b, 0, none⟩))]) ∧ ErrAt w' b ∧ Fr (· = p) w w' := by
  rcases hs with hs | ⟨d, r, rfl, hs⟩ | ⟨d, s, r, rfl, hs⟩
  · exact readFrame_shortA p bs w h.rdr hs
  · exact readFrame_shortB p g hpg d r w h hs
  · exact readFrame_shortT p g hpg d s r w h hs hL

theorem Parse_big (v : Value) (bs : List UInt8) (w : World) (hr : Rd w v bs) (hn : 9000 < bs.length) :
    Calls Tryd.prog 5 #[v] w fun e w' => ∃ b, e = .returned (.tuple #[noFrm, .iface 64 (.pointer (some ⟨b, 0, none⟩))]) ∧ Chain w' 7 [etherWord] (.iface 64 (.pointer (some ⟨b, 0, none⟩))) ∧ Below w.heap.size w w' := by
  obtain ⟨A, c, rfl, _, _⟩ := hr
  generalize bs.length = L at *
  have h1 : (9000 : Int) < (L : Int) := by omega
  go_enter Tryd.func5, Tryd.ntmps5
  go_wp2_with fail
  refine (wrap_any _ _ _ _).mono ?_
  rintro e w' ⟨rfl, rfl⟩
  go_wp2_with fail
  (try simp only [Exit.inBlock, Exit.then])
  have hc := chain_one (w.alloc noObj) etherWord 7
  rw [World.size_alloc] at hc
  refine bodyPost_ret (v := .tuple #[noFrm, .iface 64 (.pointer (some ⟨w.heap.size + 1, 0, none⟩))]) ?_ rfl ⟨_, rfl, hc, below_al (below_al (Below.refl _ _) _) _⟩
  rw [results_cell_tmp rfl]
  go_simp
  rfl

set_option maxHeartbeats 1000000 in
theorem Parse_short (v : Value) (bs : List UInt8) (w : World) (hr : Rd w v bs) (hn : bs.length ≤ 9000) (hs : FShort bs) :
    Calls Tryd.prog 5 #[v] w fun e w' => ∃ b, e = .returned (.tuple #[noFrm, .iface 64 (.pointer (some ⟨b, 0, none⟩))]) ∧ Chain w' 2 [etherWord, octetsWord] (.iface 64 (.pointer (some ⟨b, 0, none⟩))) ∧ Below w.heap.size w w' := by
  have hRd := Read_any v bs (w.alloc noObj) (hr.below (below_al (Below.refl _ _) _)) (by omega)
  have hT := readFrame_short ⟨(w.alloc noObj).heap.size + 1, 0, none⟩ (w.alloc noObj).heap.size (by simp) bs hs _ (RdrG.of_Read (w.alloc noObj) bs) (by omega)
  obtain ⟨A, c, rfl, _, _⟩ := hr
  simp only [World.size_alloc] at hT hRd
  have HT := Lib.hid hT
  have HR := Lib.hid hRd
  clear hT hRd
  have hl : ¬ (9000 : Int) < (bs.length : Int) := by omega
  clear hn hs
  go_enter Tryd.func5, Tryd.ntmps5
  go_wp2_with fail
  refine HR.out.mono ?_
  rintro e w' ⟨rfl, rfl⟩
  go_wp2_with fail
  refine HT.out.mono ?_
  rintro e w2 ⟨b, rfl, hc, hf⟩
  have hz := hf.size
  simp only [World.size_alloc] at hz
  have hR : (w2.alloc noObj).heap[w.heap.size]? = some noObj := by
    rw [heap_alloc_old _ _ (by omega), hf.block w.heap.size (by simp; omega) (fun a ha => by subst ha; simp; omega), heap_alloc_old _ _ (by simp; omega), heap_alloc_old _ _ (by simp)]
    exact heap_alloc_new w _
  have hB : Below w.heap.size w w2 := below_to (below_al (below_al (below_al (Below.refl _ _) _) _) _) (hf.below (B := w.heap.size) (by simp; omega) (fun x hx => by subst hx; simp; omega)) (Nat.le_refl _)
  have HRR := Lib.hid hR
  have HC := Lib.hid hc
  have HB := Lib.hid hB
  clear hR hc hB hf HR HT hz
  rw [noFrm_lit]
  go_wp2_with fail
  refine (wrap_any _ _ _ _).mono ?_
  rintro e w' ⟨rfl, rfl⟩
  have hR : ((w2.alloc noObj).alloc (.cells #[.string etherWord, .iface 64 (.pointer (some ⟨b, 0, none⟩))] 66)).heap[w.heap.size]? = some noObj := by
    rw [heap_alloc_old _ _ (Array.getElem?_eq_some_iff.1 HRR.out).1]; exact HRR.out
  clear HRR
  have HRR := Lib.hid hR
  have hc := chain_wrapped etherWord ((HC.out.below (below_al (Below.refl _ _) noObj)))
  rw [World.size_alloc] at hc
  have HC2 := Lib.hid hc
  clear hR hc
  go_wp2_with (refine wpList_store_row rfl 27 (.tmp 2) (.tmp 20) rfl w.heap.size noRow rfl rfl 27 _ HRR.out frmSize rfl noRow_one ?_)
  (try simp only [Exit.inBlock, Exit.then])
  refine bodyPost_ret (results_cell_tmp_row rfl _ _ w.heap.size _ noRow (0, 0) _ rfl (setRow_heap _ _ _ _ _ _ HRR.out) Tryd.underlying27 rfl frmSize) rfl ?_
  refine ⟨_, rfl, HC2.out.row HRR.out noObj_plain, ?_⟩
  exact ((Fr.of_below (p := fun _ => False) (below_al (below_al HB.out _) _)).row (Nat.le_refl _) _).below (Nat.le_refl _) (fun _ h => h.elim)

set_option maxHeartbeats 1000000 in
theorem Parse_ok (v : Value) (f : Frm) (hf : f.Ok) (w : World) (hr : Rd w v f.bs) (hn : f.bs.length ≤ 9000) :
    Calls Tryd.prog 5 #[v] w fun e w' => ∃ b, e = .returned (.tuple #[f.val (.slice (some ⟨b, 0, none⟩) f.b.length f.b.length), .nilIface]) ∧ w.heap.size ≤ b ∧ w'.heap[b]? = some (bytesObj f.b) ∧ Below w.heap.size w w' := by
  have hRd := Read_any v f.bs (w.alloc noObj) (hr.below (below_al (Below.refl _ _) _)) (by omega)
  have hT := readFrame_ok ⟨(w.alloc noObj).heap.size + 1, 0, none⟩ (w.alloc noObj).heap.size (by simp) f hf _ (RdrG.of_Read (w.alloc noObj) f.bs) (by omega)
  obtain ⟨A, c, rfl, _, _⟩ := hr
  simp only [World.size_alloc] at hT hRd
  have HT := Lib.hid hT
  have HR := Lib.hid hRd
  clear hT hRd
  have hl : ¬ (9000 : Int) < (f.bs.length : Int) := by omega
  clear hn hf
  go_enter Tryd.func5, Tryd.ntmps5
  go_wp2_with fail
  refine HR.out.mono ?_
  rintro e w' ⟨rfl, rfl⟩
  go_wp2_with fail
  refine HT.out.mono ?_
  rintro e w2 ⟨b, rfl, hbl, hbo, hf⟩
  have hz := hf.size
  simp only [World.size_alloc] at hz hbl
  have hlt := (Array.getElem?_eq_some_iff.1 hbo).1
  have hR : (w2.alloc (.cells (frmRow f.dst f.src f.vlan f.ty (.slice (some ⟨b, 0, none⟩) f.b.length f.b.length)) 27)).heap[w.heap.size]? = some noObj := by
    rw [heap_alloc_old _ _ (by omega), hf.block w.heap.size (by simp; omega) (fun a ha => by subst ha; simp; omega), heap_alloc_old _ _ (by simp; omega), heap_alloc_old _ _ (by simp)]
    exact heap_alloc_new w _
  have hB : Below w.heap.size w w2 := below_to (below_al (below_al (below_al (Below.refl _ _) _) _) _) (hf.below (B := w.heap.size) (by simp; omega) (fun x hx => by subst hx; simp; omega)) (Nat.le_refl _)
  have HRR := Lib.hid hR
  have HB := Lib.hid hB
  have HO := Lib.hid (show w.heap.size < b ∧ (w2.alloc (.cells (frmRow f.dst f.src f.vlan f.ty (.slice (some ⟨b, 0, none⟩) f.b.length f.b.length)) 27)).heap[b]? = some (bytesObj f.b) from ⟨by omega, by rw [heap_alloc_old _ _ hlt]; exact hbo⟩)
  clear hR hB hf HR HT hz hbo hbl hlt
  unfold Frm.val
  unfold frmRow at *
  go_wp2_with (refine wpList_store_row rfl 27 (.tmp 2) (.tmp 23) rfl w.heap.size (frmRow f.dst f.src f.vlan f.ty (.slice (some ⟨b, 0, none⟩) f.b.length f.b.length)) rfl rfl 27 _ HRR.out frmSize rfl (frmRow_one _ _ _ _ _ _ _) ?_)
  (try simp only [Exit.inBlock, Exit.then])
  refine bodyPost_ret (results_cell_tmp_row rfl _ _ w.heap.size _ (frmRow f.dst f.src f.vlan f.ty (.slice (some ⟨b, 0, none⟩) f.b.length f.b.length)) (0, 0) _ rfl (setRow_heap _ _ _ _ _ _ HRR.out) Tryd.underlying27 rfl frmSize) rfl ?_
  refine ⟨b, rfl, Nat.le_of_lt HO.out.1, by rw [setRow_other _ _ _ (Nat.ne_of_gt HO.out.1)]; exact HO.out.2, ?_⟩
  exact ((Fr.of_below (p := fun _ => False) (below_al HB.out _)).row (Nat.le_refl _) _).below (Nat.le_refl _) (fun _ h => h.elim)
end Go.Proofs.YtifjelinojndoaaDoor
