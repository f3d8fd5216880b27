/-
  What is proved: arp.Packet's Bytes by contract.
  Conditions: the packet's numbers fit their types.
-/
import Derived.Test.YthinmonahnbkdaaDoorAPkt
namespace Go.Proofs.YthinmonahnbkdaaDoor
open Go.RowKit

theorem below_dr {B : Nat} {w W : World} (h : Below B w W) : Below B w W.drew := ⟨h.os, h.tape, h.output, h.size, h.block⟩
def wtrObj : Obj := .cells #[.slice none 0 0] 58
def hdObj : Obj := .cells #[.int .u8 0, .int .u8 1, .int .u8 8, .int .u8 0, .int .u8 6, .int .u8 4] 5
/-- The row of a constant's bytes, with the run-time's mark behind it. -/
def hdMark : Obj := .cells #[.int .u8 0, .int .u8 1, .int .u8 8, .int .u8 0, .int .u8 6, .int .u8 4] 5 (6, 7)
theorem push_modify {α : Type} (a : Array α) (x : α) (f : α → α) : (a.push x).modify a.size f = a.push (f x) := by
  apply Array.ext
  · simp
  · intro i h1 h2
    simp only [Array.getElem_modify, Array.getElem_push]
    by_cases h : a.size = i
    · subst h
      simp
    · have hi : i < a.size := by simp at h1; omega
      simp [h, hi]
theorem push2_modify {α : Type} (a : Array α) (x y : α) (f : α → α) : ((a.push x).push y).modify a.size f = (a.push (f x)).push y := by
  apply Array.ext
  · simp
  · intro i h1 h2
    simp only [Array.getElem_modify, Array.getElem_push, Array.size_push]
    by_cases h : a.size = i
    · subst h
      simp
    · by_cases hi : i < a.size
      · simp [h, hi, Nat.lt_succ_of_lt hi]
      · have h3 : i = a.size + 1 := by simp at h1; omega
        subst h3
        simp
theorem conv_mark {W : World} {g n c : Nat} (h : W.heap[g]? = some hdObj) : (convert 22 22 (.slice (some ⟨g, 0, none⟩) n c)).run Tryd.prog W = .ok (.slice (some ⟨g, 0, none⟩) n c) (W.freeze ⟨g, 6, none⟩ 1) := by
  have hsh : W.shape? g = some (5, 6) := by
    unfold World.shape?
    rw [h]
    rfl
  simp [convert, run_underlying Tryd.underlying22, run_underlying Tryd.underlying5, markStringish, hsh]
theorem freeze_last (W : World) : (W.alloc hdObj).freeze ⟨W.heap.size, 6, none⟩ 1 = W.alloc hdMark := by
  unfold World.freeze
  rw [if_neg (by decide)]
  show ({ W.alloc hdObj with heap := (W.heap.push hdObj).modify W.heap.size _ } : World) = _
  rw [push_modify]
  rfl
theorem freeze_first (W : World) (o : Obj) : ((W.alloc hdObj).alloc o).freeze ⟨W.heap.size, 6, none⟩ 1 = (W.alloc hdMark).alloc o := by
  unfold World.freeze
  rw [if_neg (by decide)]
  show ({ (W.alloc hdObj).alloc o with heap := ((W.heap.push hdObj).push o).modify W.heap.size _ } : World) = _
  rw [push2_modify]
  rfl
theorem freeze_drew (W : World) (a : Addr) (k : Nat) : W.drew.freeze a k = (W.freeze a k).drew := by
  unfold World.freeze
  split <;> rfl
theorem rd_mark {W : World} {g : Nat} (h : W.heap[g]? = some hdMark) : Rd W (.slice (some ⟨g, 0, none⟩) 6 6) arpHead := by
  unfold hdMark at h
  refine ⟨_, 6, rfl, Nat.le_refl _, fun _ => ⟨g, 0, rfl, fun i u hu => ?_⟩⟩
  rw [cell_of_row W g _ _ _ _ h]
  match i, hu with
  | 0, hu | 1, hu | 2, hu | 3, hu | 4, hu | 5, hu => cases hu; rfl
  | i + 6, hu => cases hu
/-- The writer behind the bytes, and ahead of them. -/
theorem Wrt.newA (w : World) (o : Obj) : Wrt w w.heap.size [] ((w.alloc (.cells #[.slice none 0 0] 58)).alloc o) :=
  (Wrt.new w).below (below_al (Below.refl _ _) _)
theorem Wrt.newB (w : World) (o : Obj) : Wrt w (w.heap.size + 1) [] ((w.alloc o).alloc (.cells #[.slice none 0 0] 58)) := by
  have h := Wrt.new (w.alloc o)
  rw [World.size_alloc] at h
  obtain ⟨row, h⟩ := h
  exact ⟨row, h.a, fun k hk => Nat.le_trans (by simp) (h.lo k hk), below_to (below_al (Below.refl _ _) _) h.old (by simp), by omega⟩
set_option maxRecDepth 100000 in
set_option maxHeartbeats 4000000 in
theorem aBytes_any (p : Pkt) (hp : p.In) (w : World) :
    Calls Tryd.prog 9 #[p.val] w fun e w' => ∃ b, e = .returned (.slice (some ⟨b, 0, none⟩) 28 28) ∧ w.heap.size ≤ b ∧ w'.heap[b]? = some (bytesObj p.bs) ∧ Below w.heap.size w w' := by
  have HX := Lib.hid (PktAt.new w p)
  have HB := Lib.hid (below_al (Below.refl w.heap.size w) p.obj)
  have HP := Lib.hid hp
  clear hp
  rw [Pkt.val_lit]
  go_enter Tryd.func9, Tryd.ntmps9
  go_upto_region 1 with fail
  generalize hW : w.alloc p.obj = W at HX HB
  unfold Pkt.obj at hW
  rw [hW]
  clear hW
  have HG : Hid (w.heap.size < W.heap.size) := HX.out.lt
  generalize hG : w.heap.size = G at *
  have HE := Lib.hid hG
  clear hG
  go_cut [3] (fun s3 wx => ∃ q, s3 = .pointer (some ⟨q, 0, none⟩) ∧ Wrt W q (arpHead ++ be2 p.op) wx)
  case first =>
    have hm1 : ((W.alloc wtrObj).alloc hdMark).heap[W.heap.size + 1]? = some hdMark := by
      have h := heap_alloc_new (W.alloc wtrObj) hdMark
      rwa [World.size_alloc] at h
    have hm2 : ((W.alloc hdMark).alloc wtrObj).heap[W.heap.size]? = some hdMark := by
      rw [heap_alloc_old _ _ (by simp)]
      exact heap_alloc_new W hdMark
    have XA := Lib.hid (Wrt.bytes (Wrt.newA W hdMark).drew arpHead _ ((rd_mark hm1).below (below_drew _)) (by decide))
    have XB := Lib.hid (Wrt.bytes (Wrt.newB W hdMark).drew arpHead _ ((rd_mark hm2).below (below_drew _)) (by decide))
    have KS : Hid (∀ W', Below W.heap.size W W' → W'.cell? ⟨G, 0, none⟩ = some (.int .u16 p.op)) := fun W' h => (HX.out.below h).cells.1
    have cv1 : (convert 22 22 (.slice (some ⟨W.heap.size + 1, 0, none⟩) 6 6)).run Tryd.prog ((W.alloc wtrObj).alloc hdObj).drew = .ok (.slice (some ⟨W.heap.size + 1, 0, none⟩) 6 6) ((W.alloc wtrObj).alloc hdMark).drew := by
      have h : ((W.alloc wtrObj).alloc hdObj).heap[W.heap.size + 1]? = some hdObj := by
        have h := heap_alloc_new (W.alloc wtrObj) hdObj
        rwa [World.size_alloc] at h
      have e := freeze_last (W.alloc wtrObj)
      rw [World.size_alloc] at e
      rw [conv_mark (show ((W.alloc wtrObj).alloc hdObj).drew.heap[W.heap.size + 1]? = some hdObj from h), freeze_drew, e]
    have cv2 : (convert 22 22 (.slice (some ⟨W.heap.size, 0, none⟩) 6 6)).run Tryd.prog ((W.alloc hdObj).alloc wtrObj).drew = .ok (.slice (some ⟨W.heap.size, 0, none⟩) 6 6) ((W.alloc hdMark).alloc wtrObj).drew := by
      have h : ((W.alloc hdObj).alloc wtrObj).heap[W.heap.size]? = some hdObj := by
        rw [heap_alloc_old _ _ (by simp)]
        exact heap_alloc_new W hdObj
      rw [conv_mark (show ((W.alloc hdObj).alloc wtrObj).drew.heap[W.heap.size]? = some hdObj from h), freeze_drew, freeze_first]
    have cv3 : (convert 22 22 (.slice (some ⟨W.heap.size, 0, none⟩) 6 6)).run Tryd.prog (W.alloc hdObj).drew = .ok (.slice (some ⟨W.heap.size, 0, none⟩) 6 6) (W.alloc hdMark).drew := by
      rw [conv_mark (show (W.alloc hdObj).drew.heap[W.heap.size]? = some hdObj from heap_alloc_new W hdObj), freeze_drew, freeze_last]
    unfold wtrObj at XA XB cv1 cv2
    unfold hdMark at XA XB cv1 cv2 cv3
    unfold hdObj at cv1 cv2 cv3
    clear hm1 hm2
    go_region_held_law (fun W' => W'.cell? ⟨G, 0, none⟩ = some (.int .u16 p.op))
      (first | assumption | exact KS.out _ H2.out.old | exact KS.out _ H1.out.old | exact KS.out _ (below_drew W) | exact KS.out _ (below_dr (below_al (below_al (Below.refl _ W) _) _)) | exact KS.out _ (below_dr (below_al (Below.refl _ W) _)))
      (first
        | (go_at_call 22; (with_reducible refine XA.out.mono ?_); rintro e w1 ⟨rfl, h1⟩; (have H1 := Lib.hid h1); clear h1)
        | (go_at_call 22; (with_reducible refine XB.out.mono ?_); rintro e w1 ⟨rfl, h1⟩; (have H1 := Lib.hid h1); clear h1)
        | (go_at_call 23; refine (H1.out.u16 p.op HP.out.op (by decide)).mono ?_; rintro e w2 ⟨rfl, h2⟩; (have H2 := Lib.hid h2); clear h2))
    all_goals
      go_wp2_with fail
      go_meet
      exact ⟨_, rfl, H2.out⟩
  obtain ⟨q, rfl, h2⟩ := hcut
  have H2 := Lib.hid h2
  clear h2
  go_upto_region 2 with fail
  go_cut [3] (fun s3 wx => s3 = .pointer (some ⟨q, 0, none⟩) ∧ Wrt W q ((arpHead ++ be2 p.op ++ p.sha.bs) ++ be4 p.spa) wx)
  case first =>
    have X1 := Lib.hid (H2.out.drew.bytes p.sha.bs _ ((HX.out.below H2.out.drew.old).sha) (by simp [mac_bs_len, be2_len, arpHead]))
    have k0 := ((HX.out.below H2.out.drew.old).cells).2.2.2.2.2.2.2.1
    clear H2
    go_region_law (first
      | (go_simp; go_at_call 22; (with_reducible refine X1.out.mono ?_); rintro e w3 ⟨rfl, h3⟩; (have k1 := ((HX.out.below h3.old).cells).2.2.2.2.2.2.2.1); (have X2 := Lib.hid (h3.u32 p.spa HP.out.spa (by simp [mac_bs_len, be2_len, arpHead]))); clear h3)
      | (go_simp; go_at_call 24; (with_reducible refine X2.out.mono ?_); rintro e w4 ⟨rfl, h4⟩; (have H4 := Lib.hid h4); clear h4))
    all_goals
      go_wp2_with fail
      go_meet
      exact ⟨rfl, H4.out⟩
  obtain ⟨rfl, h2⟩ := hcut
  have H2 := Lib.hid h2
  clear h2
  go_upto_region 3 with fail
  go_cut [3] (fun s3 wx => s3 = .pointer (some ⟨q, 0, none⟩) ∧ Wrt W q (((arpHead ++ be2 p.op ++ p.sha.bs) ++ be4 p.spa ++ p.tha.bs) ++ be4 p.tpa) wx)
  case first =>
    have X1 := Lib.hid (H2.out.drew.bytes p.tha.bs _ ((HX.out.below H2.out.drew.old).tha) (by simp [mac_bs_len, be2_len, be4_len, arpHead]))
    have k0 := ((HX.out.below H2.out.drew.old).cells).2.2.2.2.2.2.2.2.2.2.2.2.2.2
    clear H2
    go_region_law (first
      | (go_simp; go_at_call 22; (with_reducible refine X1.out.mono ?_); rintro e w3 ⟨rfl, h3⟩; (have k1 := ((HX.out.below h3.old).cells).2.2.2.2.2.2.2.2.2.2.2.2.2.2); (have X2 := Lib.hid (h3.u32 p.tpa HP.out.tpa (by simp [mac_bs_len, be2_len, be4_len, arpHead]))); clear h3)
      | (go_simp; go_at_call 24; (with_reducible refine X2.out.mono ?_); rintro e w4 ⟨rfl, h4⟩; (have H4 := Lib.hid h4); clear h4))
    all_goals
      go_wp2_with fail
      go_meet
      exact ⟨rfl, H4.out⟩
  obtain ⟨rfl, h2⟩ := hcut
  have e0 : ((arpHead ++ be2 p.op ++ p.sha.bs) ++ be4 p.spa ++ p.tha.bs) ++ be4 p.tpa = p.bs := by simp only [Pkt.bs, List.append_assoc]
  rw [e0] at h2
  have X1 := Lib.hid (h2.finish (by rw [p.bs_len]; decide))
  rw [p.bs_len] at X1
  clear h2 e0
  go_wp2_with fail
  refine X1.out.mono ?_
  rintro e w8 ⟨b, rfl, hb1, hb2, hb3⟩
  have H8 := Lib.hid (And.intro hb1 (And.intro hb2 hb3))
  clear hb1 hb2 hb3 X1
  go_wp2_with fail
  go_ret
  obtain rfl := HE.out
  exact ⟨b, rfl, by have h1 := H8.out.1; have h2 := HG.out; omega, H8.out.2.1, below_to HB.out H8.out.2.2 (Nat.le_of_lt HG.out)⟩
theorem aBytes_lit (p : Pkt) (hp : p.In) (w : World) :
    Calls Tryd.prog 9 #[.agg #[.int .u16 p.op, .int .u8 p.sha.a.toNat, .int .u8 p.sha.b.toNat, .int .u8 p.sha.c.toNat, .int .u8 p.sha.d.toNat, .int .u8 p.sha.e.toNat, .int .u8 p.sha.f.toNat, .int .u32 p.spa, .int .u8 p.tha.a.toNat, .int .u8 p.tha.b.toNat, .int .u8 p.tha.c.toNat, .int .u8 p.tha.d.toNat, .int .u8 p.tha.e.toNat, .int .u8 p.tha.f.toNat, .int .u32 p.tpa]] w fun e w' => ∃ b, e = .returned (.slice (some ⟨b, 0, none⟩) 28 28) ∧ w.heap.size ≤ b ∧ w'.heap[b]? = some (bytesObj p.bs) ∧ Below w.heap.size w w' :=
  aBytes_any p hp w
end Go.Proofs.YthinmonahnbkdaaDoor
