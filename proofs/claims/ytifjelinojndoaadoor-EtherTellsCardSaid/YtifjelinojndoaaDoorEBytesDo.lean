/-
  What is proved: ether.Frame's Bytes of a frame that has bytes, by contract.
  Conditions: the frame's bytes are at most 9000.
-/
import Derived.Test.YtifjelinojndoaaDoorEBytesOk
namespace Go.Proofs.YtifjelinojndoaaDoor
open Go.RowKit

theorem u16_wrap (v : Nat) (h : v < 65536) : IntKind.u16.wrap (v : Int) = (v : Int) := by
  have h1 : IntKind.u16.bits = 16 := rfl
  have h2 : IntKind.u16.signed = false := rfl
  simp [IntKind.wrap, h1, h2]
  omega
set_option maxHeartbeats 1000000 in
theorem fBytes_ok (f : Frm) (hf : f.Ok) (A : Option Addr) (c : Nat) (w : World) (hr : Rd w (.slice A f.b.length c) f.b) (hn : f.bs.length ≤ 9000) :
    Calls Tryd.prog 9 #[f.val (.slice A f.b.length c)] w fun e w' => ∃ b, e = .returned (.tuple #[.slice (some ⟨b, 0, none⟩) f.bs.length f.bs.length, .nilIface]) ∧ w.heap.size ≤ b ∧ w'.heap[b]? = some (bytesObj f.bs) ∧ Below w.heap.size w w' := by
  have hl := f.bs_len
  have HT := Lib.hid (canBeTold_ok f hf A f.b.length c (w.alloc (f.obj (.slice A f.b.length c))))
  have HS := Lib.hid ((fsize_any f A f.b.length c (by omega) ((w.alloc (f.obj (.slice A f.b.length c))).alloc (f.obj (.slice A f.b.length c)))).mono (R' := fun e w' => e = .returned (.int .i64 ((f.head + f.b.length : Nat) : Int)) ∧ Below w.heap.size w w' ∧ w'.heap[w.heap.size]? = some (f.obj (.slice A f.b.length c)))
    (by rintro e w' ⟨rfl, rfl⟩; exact ⟨rfl, below_al (below_al (below_al (Below.refl _ _) _) _) _, by rw [heap_alloc_old _ _ (by simp; omega), heap_alloc_old _ _ (by simp)]; exact heap_alloc_new w _⟩))
  have hd2 : ¬ (9000 : Int) < ((f.head + f.b.length : Nat) : Int) := by omega
  generalize hL : f.head + f.b.length = L at *
  have HL := Lib.hid hL
  have HO := Lib.hid hf
  have HN := Lib.hid hn
  have HR := Lib.hid hr
  clear hL hl hf hn hr
  unfold Frm.val frmRow
  unfold Frm.val frmRow at HT HS
  unfold Frm.obj at HT
  unfold Frm.obj at HS
  go_enter Tryd.func9, Tryd.ntmps9
  go_wp2_with fail
  refine HT.out.mono ?_
  rintro e w' ⟨rfl, rfl⟩
  go_wp2_with fail
  refine HS.out.mono ?_
  rintro e W0 ⟨rfl, hb0, hg0⟩
  clear HT HS
  have hlt : w.heap.size < W0.heap.size := (Array.getElem?_eq_some_iff.1 hg0).1
  have hg : W0.heap[w.heap.size]? = some (f.obj (.slice A f.b.length c)) := hg0
  have HG := Lib.hid hg
  have HB := Lib.hid hb0
  have HRR := Lib.hid (HR.out.below hb0)
  have H0 := Lib.hid (Wrt.new W0).drew
  clear hg hg0 hb0 HR
  generalize hGw : w.heap.size = G at *
  have HGw := Lib.hid hGw
  clear hGw
  go_wp2_with fail
  have X1 := Lib.hid (Wrt.bytes H0.out f.dst.bs _ (frm_dst (H0.out.block HG.out)) (by simp [M6.bs_len]))
  clear H0
  go_region_law (first
    | (go_simp; go_at_call 19; (with_reducible refine X1.out.mono ?_); rintro e w1 ⟨rfl, h1⟩; (have X2 := Lib.hid (Wrt.bytes h1 f.src.bs _ (frm_src (h1.block HG.out)) (by simp [M6.bs_len]))); clear h1)
    | (go_simp; go_at_call 19; (with_reducible refine X2.out.mono ?_); rintro e w2 ⟨rfl, h2⟩; (have H2 := Lib.hid h2); clear h2))
  obtain ⟨c12, c13, c14⟩ := frm_cells (H2.out.block HG.out)
  clear X1 X2
  have hty := HO.out.ty
  have HFB : Hid (((f.dst.bs ++ f.src.bs ++ tagBs f.vlan) ++ be2 f.ty) ++ f.b = f.bs) := by
    show _ = _
    simp [Frm.bs, Frm.tail]
  by_cases hv : f.vlan = -1
  · rw [hv] at c12
    go_wp2_with fail
    have H5 := Lib.hid (show Wrt W0 W0.heap.size ((f.dst.bs ++ f.src.bs) ++ tagBs f.vlan) w2 from by simpa [tagBs, hv] using H2.out)
    clear H2 c12 hv
    generalize w2 = w5 at *
    go_wp2_with fail
    (have X1 := Lib.hid (Wrt.u16 H5.out.drew f.ty hty (by have := HN.out; have := f.bs_len; simp [M6.bs_len, tagBs]; split <;> simp [be2])))
    go_region_law (first
      | (go_simp; go_at_call 20; (with_reducible refine X1.out.mono ?_); rintro e w6 ⟨rfl, h6⟩; obtain ⟨m12, m13, m14⟩ := frm_cells (h6.block HG.out); clear m12 m13; (have X2 := Lib.hid (Wrt.bytes h6 f.b _ (HRR.out.below h6.old) (by have := HN.out; have := f.bs_len; simp [M6.bs_len, tagBs, be2]; split <;> simp <;> omega))); clear h6)
      | (go_simp; go_at_call 19; (with_reducible refine X2.out.mono ?_); rintro e w7 ⟨rfl, h7⟩; rw [HFB.out] at h7; (have X3 := Lib.hid (h7.finish (by have := HN.out; omega))); clear h7)
      | (go_simp; go_at_call 21; (with_reducible refine X3.out.mono ?_); rintro e w8 ⟨b, rfl, hb1, hb2, hb3⟩; (have H8 := Lib.hid (And.intro hb1 (And.intro hb2 hb3))); clear hb1 hb2 hb3))
    all_goals
      go_wp2_with fail
      go_ret2
      obtain rfl := HGw.out
      exact ⟨b, rfl, by have := H8.out.1; omega, H8.out.2.1, below_to HB.out H8.out.2.2 (Nat.le_of_lt hlt)⟩
  · obtain ⟨v, hvv⟩ : ∃ v : Nat, f.vlan = (v : Int) := ⟨f.vlan.toNat, by have := HO.out.tag; omega⟩
    have hvl : v < 65536 := by have := HO.out.tag; omega
    rw [hvv] at c12
    have X1 := Lib.hid (Wrt.u16i H2.out.drew 33024 33024 rfl (by omega) (by simp [M6.bs_len]))
    have HW := Lib.hid (u16_wrap v hvl)
    have HV := Lib.hid hvv
    have HT : Hid (((f.dst.bs ++ f.src.bs) ++ be2 33024) ++ be2 v = (f.dst.bs ++ f.src.bs) ++ tagBs f.vlan) := by
      show _ = _
      rw [hvv, tagBs, if_neg (by omega)]
      simp [be2]
    clear hvv
    go_wp2_with fail
    go_region_law (first
      | (go_simp; go_at_call 20; (with_reducible refine X1.out.mono ?_); rintro e w3 ⟨rfl, h3⟩; obtain ⟨k12, k13, k14⟩ := frm_cells (h3.block HG.out); rw [HV.out] at k12; (have X2 := Lib.hid (Wrt.u16i h3 v _ HW.out hvl (by simp [M6.bs_len, be2]))); clear h3)
      | (go_simp; go_at_call 20; (with_reducible refine X2.out.mono ?_); rintro e w5 ⟨rfl, h5⟩; rw [List.nil_append, HT.out] at h5; (have H5 := Lib.hid h5); clear h5))
    all_goals
      (clear X1 X2 H2 c12 c13 c14 k12 k13 k14; obtain ⟨c12, c13, c14⟩ := frm_cells (H5.out.block HG.out); clear c12)
      go_wp2_with fail
      (have X1 := Lib.hid (Wrt.u16 H5.out.drew f.ty hty (by have := HN.out; have := f.bs_len; simp [M6.bs_len, tagBs]; split <;> simp [be2])))
      go_region_law (first
        | (go_simp; go_at_call 20; (with_reducible refine X1.out.mono ?_); rintro e w6 ⟨rfl, h6⟩; obtain ⟨m12, m13, m14⟩ := frm_cells (h6.block HG.out); clear m12 m13; (have X2 := Lib.hid (Wrt.bytes h6 f.b _ (HRR.out.below h6.old) (by have := HN.out; have := f.bs_len; simp [M6.bs_len, tagBs, be2]; split <;> simp <;> omega))); clear h6)
        | (go_simp; go_at_call 19; (with_reducible refine X2.out.mono ?_); rintro e w7 ⟨rfl, h7⟩; rw [HFB.out] at h7; (have X3 := Lib.hid (h7.finish (by have := HN.out; omega))); clear h7)
        | (go_simp; go_at_call 21; (with_reducible refine X3.out.mono ?_); rintro e w8 ⟨b, rfl, hb1, hb2, hb3⟩; (have H8 := Lib.hid (And.intro hb1 (And.intro hb2 hb3))); clear hb1 hb2 hb3))
      all_goals
        go_wp2_with fail
        go_ret2
        obtain rfl := HGw.out
        exact ⟨b, rfl, by have := H8.out.1; omega, H8.out.2.1, below_to HB.out H8.out.2.2 (Nat.le_of_lt hlt)⟩
end Go.Proofs.YtifjelinojndoaaDoor
