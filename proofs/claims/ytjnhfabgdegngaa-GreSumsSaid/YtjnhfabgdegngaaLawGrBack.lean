/-
  What is proved: the law GreBack answers true for any header and frame, and leaves all older memory as it was.
  Conditions: the slice is of fewer than 2^63 bytes.
-/
import Derived.Test.YtjnhfabgdegngaaGrShown
import Derived.Test.YtjnhfabgdegngaaGrFacts
namespace Go.Proofs.Ytjnhfabgdegngaa
open Go.RowKit

theorem grfront {w : World} {A : Option Addr} {c : Nat} (l0 : List UInt8) (h : Rd w (.slice A l0.length c) l0) : ∃ l : List UInt8, l.length = min l0.length 10000 ∧ Rd w (.slice A l.length c) l := by
  have h1 := h.front (K := min l0.length 10000) (by omega)
  have e : (l0.take (min l0.length 10000)).length = min l0.length 10000 := by rw [List.length_take]; omega
  exact ⟨l0.take (min l0.length 10000), e, by rw [e]; exact h1⟩
/-- The law's box of the header, and the bytes that Encap made. -/
structure GBK (w : World) (G g : Nat) (h : GH) (P : List UInt8) (W : World) : Prop where
  box : GBox W G h
  old : Below w.heap.size w W
  row : W.heap[g]? = some (bytesObj P)
  lo : w.heap.size ≤ G
  ne : g ≠ G
section
variable {w W W' : World} {G g : Nat} {h : GH} {P : List UInt8}
theorem GBK.below (k : GBK w G g h P W) (hb : Below W.heap.size W W') : GBK w G g h P W' :=
  ⟨k.box.below hb, below_to k.old hb k.old.size, (hb.block _ (Array.getElem?_eq_some_iff.1 k.row).1).trans k.row, k.lo, k.ne⟩
theorem GBK.set (k : GBK w G g h P W) (i : Nat) (v : Value) (h' : GH) (hh : h.row.setIfInBounds i v = h'.row) : GBK w G g h' P (W.setCell ⟨G, i, none⟩ v) := by
  have hf : Fr (· = (⟨G, i, none⟩ : Addr)) W (W.setCell ⟨G, i, none⟩ v) := Fr.of_set W _ v rfl
  refine ⟨⟨?_⟩, below_to k.old (hf.below (B := w.heap.size) k.old.size (fun x hx => by subst hx; exact k.lo)) (Nat.le_refl _), (gset_other W G i g v k.ne).trans k.row, k.lo, k.ne⟩
  have := gset_heap W G i v _ _ _ k.box.o
  rw [hh] at this
  exact this
theorem GBK.rd (k : GBK w G g h P W) (n : Nat) (hn : P.length = n) : Rd W (.slice (some ⟨g, 0, none⟩) n n) P := by subst hn; exact Rd.of_obj k.row (Nat.le_refl _)
end
set_option maxRecDepth 100000 in
set_option maxHeartbeats 4000000 in
theorem grBack_any (h : GH) (hf : h.Fit) (A : Option Addr) (c : Nat) (l0 : List UInt8) (w : World) (hc : c ≤ 9223372036854775807) (hr0 : Rd w (.slice A l0.length c) l0) :
    Calls Try.prog 3 #[.agg #[.bool h.s, .bool h.k, .int .u32 (h.key : Int), .bool h.q, .int .u32 (h.seq : Int)], .slice A l0.length c] w fun e w' => e = .returned (.bool true) ∧ Below w.heap.size w w' := by
  have hlc := hr0.cap_le
  obtain ⟨l, hl, hr⟩ := grfront l0 hr0
  have HF : Hid (∀ W, _) := fun W => grfew_any A l0.length c W hc hlc l.length hl
  have hl2 : l.length ≤ 10000 := by omega
  have HR := Lib.hid hr
  have HX := Lib.hid (GBox.new w h)
  have HB := Lib.hid (gbelow_al (Below.refl w.heap.size w) h.obj)
  have HFit := Lib.hid hf
  clear hl hr hr0 hlc hf
  go_enter Try.func3, Try.ntmps3
  go_upto_region 1 with fail
  generalize hW : w.alloc h.obj = W at HX HB
  unfold GH.obj GH.row at hW
  rw [hW]
  clear hW
  generalize hG : w.heap.size = G at *
  have HE := Lib.hid hG
  clear hG
  go_wp2_with fail
  refine (grShown_any W).mono ?_
  rintro e w1 ⟨rfl, hb1⟩
  have HX1 := Lib.hid (HX.out.below hb1)
  have HB1 := Lib.hid (below_to HB.out hb1 (by have := HB.out.size; have := HE.out; omega))
  clear hb1 HX HB
  go_wp2_with fail
  refine (HF.out w1).mono ?_
  rintro e w' ⟨rfl, rfl⟩
  clear HF
  obtain ⟨c0, c1, c2, c3, c4⟩ := HX1.out.cells
  by_cases h2 : frameWrong l.length = 0
  · obtain ⟨h3, h4⟩ := grframe_fits h2
    have HFW := Lib.hid h2
    have HPL := Lib.hid (h.pack_len l)
    have HPB := Lib.hid (grpack_back h HFit.out l)
    have HEn := Lib.hid (grencap_ok h HFit.out A c l w1 (HR.out.below (by rw [HE.out]; exact HB1.out)) h3 h4)
    have HAt := Lib.hid h.at_le
    clear h2
    generalize hP : h.pack l = P at *
    clear hP
    generalize hN : P.length = N at *
    have HN := Lib.hid hN
    clear hN
    unfold GEGood at HEn
    go_wp2_with fail
    refine HEn.out.mono ?_
    rintro e w2 ⟨g, he, hg, ho2, hb2⟩
    rw [HN.out] at he
    subst he
    have HK : Hid (GBK w G g h P w2) := ⟨HX1.out.below hb2, by rw [HE.out]; exact below_to HB1.out hb2 (by have := HB1.out.size; have := HE.out; omega), ho2, by rw [HE.out]; exact Nat.le_refl _, by have := HX1.out.lt; omega⟩
    clear hg ho2 hb2 c0 c1 c2 c3 c4 HEn HX1 HB1
    go_upto_region 6 with fail
    obtain ⟨k, hk, d1, d2, z2⟩ : ∃ k, Hid (h.k = k) ∧ w2.cell? ⟨G, 1, none⟩ = some (.bool k) ∧ w2.cell? ⟨G, 2, none⟩ = some (.int .u32 (h.key : Int)) ∧ w2.frozen? ⟨G, 2, none⟩ = false := ⟨h.k, rfl, HK.out.box.c1, HK.out.box.c2, HK.out.box.free 2⟩
    go_upto_if 40 with fail
    go_cut [] (fun wx => GBK w G g ⟨h.s, h.k, if h.k then h.key else 0, h.q, h.seq⟩ P wx)
    case first =>
      cases k
      · have HK2 := Lib.hid (HK.out.set 2 (.int .u32 0) ⟨h.s, h.k, if h.k then h.key else 0, h.q, h.seq⟩ (by rw [show (if h.k = true then h.key else 0) = 0 by rw [hk.out]; rfl]; rfl))
        clear hk
        go_wp2_with fail
        go_meet
        exact HK2.out
      · have HK2 : Hid (GBK w G g ⟨h.s, h.k, if h.k then h.key else 0, h.q, h.seq⟩ P w2) := by rw [show (if h.k then h.key else 0) = h.key by rw [if_pos hk.out]]; exact HK.out
        clear hk
        go_wp2_with fail
        go_meet
        exact HK2.out
    have HK2 := Lib.hid hcut
    clear hcut hk d1 d2 z2 HK
    obtain ⟨k, hk, d1, d2, z2⟩ : ∃ k, Hid (h.q = k) ∧ wc.cell? ⟨G, 3, none⟩ = some (.bool k) ∧ wc.cell? ⟨G, 4, none⟩ = some (.int .u32 (h.seq : Int)) ∧ wc.frozen? ⟨G, 4, none⟩ = false := ⟨h.q, rfl, HK2.out.box.c3, HK2.out.box.c4, HK2.out.box.free 4⟩
    go_upto_if 44 with fail
    go_cut [] (fun wx => GBK w G g h.norm P wx)
    case first =>
      cases k
      · have HK3 := Lib.hid (HK2.out.set 4 (.int .u32 0) h.norm (by unfold GH.norm; rw [show (if h.q = true then h.seq else 0) = 0 by rw [hk.out]; rfl]; rfl))
        clear hk
        go_wp2_with fail
        go_meet
        exact HK3.out
      · have HK3 : Hid (GBK w G g h.norm P wc) := by unfold GH.norm; rw [show (if h.q then h.seq else 0) = h.seq by rw [if_pos hk.out]]; exact HK2.out
        clear hk
        go_wp2_with fail
        go_meet
        exact HK3.out
    have HK3 := Lib.hid hcut
    clear hcut hk d1 d2 z2 HK2
    obtain ⟨p1, p2, p3⟩ := HPB.out
    rw [HFW.out] at p1
    have hd := grdec_any (bs := P) (w := wc) (A := some ⟨g, 0, none⟩) (c := P.length) (Rd.of_obj HK3.out.row (Nat.le_refl _)) (by rw [HN.out, HPL.out]; have := HAt.out; omega)
    have HD : Hid (Calls Try.prog 12 #[.slice (some ⟨g, 0, none⟩) N N] wc (GRGood h.norm l wc)) := by
      rw [HN.out] at hd
      refine hd.mono ?_
      rintro e w' (⟨h, _⟩ | ⟨_, k⟩)
      · exact absurd p1 h
      · rw [p2, p3] at k; exact k
    clear hd p1 p2 p3 HPB
    unfold GRGood at HD
    generalize h.norm = hn at *
    go_wp2_with fail
    refine HD.out.mono ?_
    rintro e w3 ⟨g3, he, _, ho3, hb3⟩
    have he' : e = .returned (.tuple #[.agg #[.bool hn.s, .bool hn.k, .int .u32 (hn.key : Int), .bool hn.q, .int .u32 (hn.seq : Int)], .slice (some ⟨g3, 0, none⟩) l.length l.length, .nilIface]) := he
    subst he'
    have hb4 := hb3.alloc hb3.size hn.obj
    have HK4 := Lib.hid (HK3.out.below hb4)
    have HX4 := Lib.hid (GBox.new w3 hn)
    have ho4 : (w3.alloc hn.obj).heap[g3]? = some (bytesObj l) := ((Below.refl w3.heap.size w3).alloc (Nat.le_refl _) hn.obj).block _ (Array.getElem?_eq_some_iff.1 ho3).1 |>.trans ho3
    have HO4 := Lib.hid ho4
    clear he hb3 hb4 ho3 ho4 HK3 HD
    go_upto_region 11 with fail
    generalize hW : w3.alloc hn.obj = W4 at HK4 HX4 HO4
    have hW2 : w3.alloc (.cells #[.bool hn.s, .bool hn.k, .int .u32 (hn.key : Int), .bool hn.q, .int .u32 (hn.seq : Int)] 24) = W4 := hW
    rw [hW2]
    clear hW hW2
    generalize w3.heap.size = G4 at *
    obtain ⟨a0, a1, a2, a3, a4⟩ := HX4.out.cells
    obtain ⟨b0, b1, b2, b3, b4⟩ := HK4.out.box.cells
    have cv1 := convert_rd (HR.out.below HK4.out.old)
    have cv2 := convert_rd (Rd.of_obj (c := l.length) HO4.out (Nat.le_refl _))
    go_wp2_with fail
    go_ret
    exact ⟨rfl, HK4.out.old⟩
  · have HEn := Lib.hid (grencap_bad h A l.length c w1 h2)
    have hor : l.length < 14 ∨ 9000 < l.length := by
      unfold frameWrong at h2
      by_cases k1 : l.length < 14
      · exact .inl k1
      · rw [if_neg k1] at h2
        by_cases k2 : 9000 < l.length
        · exact .inr k2
        · rw [if_neg k2] at h2; exact absurd rfl h2
    unfold GEBad at HEn
    clear h2
    go_wp2_with fail
    refine HEn.out.mono ?_
    rintro e w2 ⟨b, rfl, _, hb2⟩
    have HB2 := Lib.hid (below_to HB1.out hb2 (by have := HB1.out.size; have := HE.out; omega))
    clear hb2 c0 c1 c2 c3 c4
    by_cases h3 : l.length < 14
    · go_wp2_with fail
      go_ret
      exact ⟨rfl, by rw [HE.out]; exact HB2.out⟩
    · have h4 : 9000 < l.length := by omega
      clear hor
      go_wp2_with fail
      go_ret
      exact ⟨rfl, by rw [HE.out]; exact HB2.out⟩
end Go.Proofs.Ytjnhfabgdegngaa
