/-
  What is proved: the law ArpCuts answers true for any packet, place and byte, and leaves all older memory as it was.
  Conditions: errors.errorType holds the handle of the type error; the packet's numbers fit their types.
-/
import Derived.Test.YtjfghobhneogjaaDoorAShown
import Derived.Test.YtjfghobhneogjaaDoorSum
namespace Go.Proofs.YtjfghobhneogjaaDoor
open Go.RowKit

theorem xor_u8 (a b : Nat) (ha : a < 256) (hb : b < 256) : ∃ y : Nat, y < 256 ∧ bits .xor .u8 (a : Int) (b : Int) = (y : Int) ∧ (y = a ↔ b = 0) := by
  refine ⟨a ^^^ b, Nat.xor_lt_two_pow (n := 8) ha hb, ?_, ?_⟩
  · show IntKind.u8.wrap ((BitVec.ofInt 8 (a : Int) ^^^ BitVec.ofInt 8 (b : Int)).toNat : Int) = _
    have h1 : (BitVec.ofInt 8 (a : Int)).toNat = a := by rw [BitVec.ofInt_natCast, BitVec.toNat_ofNat]; exact Nat.mod_eq_of_lt (by omega)
    have h2 : (BitVec.ofInt 8 (b : Int)).toNat = b := by rw [BitVec.ofInt_natCast, BitVec.toNat_ofNat]; exact Nat.mod_eq_of_lt (by omega)
    have h3 : a ^^^ b < 256 := Nat.xor_lt_two_pow (n := 8) ha hb
    rw [BitVec.toNat_xor, h1, h2]
    have k1 : IntKind.u8.bits = 8 := rfl
    have k2 : IntKind.u8.signed = false := rfl
    simp only [IntKind.wrap, k1, k2]
    simp
    omega
  · constructor
    · intro h
      have h2 : a ^^^ (a ^^^ b) = a ^^^ a := by rw [h]
      rw [← Nat.xor_assoc, Nat.xor_self, Nat.zero_xor] at h2
      exact h2
    · rintro rfl
      simp
theorem head_lt (k : Nat) (hk : k < 6) : ∃ u : UInt8, arpHead[k]? = some u := ⟨_, List.getElem?_eq_getElem (by simpa [arpHead] using hk)⟩
theorem Pkt.bs_set (p : Pkt) (k : Nat) (hk : k < 6) (x : UInt8) : p.bs.set k x = arpHead.set k x ++ (be2 p.op ++ (p.sha.bs ++ (be4 p.spa ++ (p.tha.bs ++ (be4 p.tpa ++ []))))) := by
  rw [Pkt.bs, List.set_append_left _ _ (by simpa [arpHead] using hk), List.append_nil]
theorem head_set {k : Nat} {u x : UInt8} (hu : arpHead[k]? = some u) : arpHead.set k x = arpHead ↔ x = u := by
  have hk : k < arpHead.length := (List.getElem?_eq_some_iff.1 hu).1
  constructor
  · intro h
    have h2 : (arpHead.set k x)[k]? = some u := by rw [h]; exact hu
    rw [List.getElem?_set_self hk] at h2
    exact Option.some.inj h2
  · rintro rfl
    have e := (List.getElem?_eq_some_iff.1 hu).2
    rw [← e]
    exact List.set_getElem_self hk

set_option maxRecDepth 100000 in
set_option maxHeartbeats 4000000 in
theorem cuts_any (p : Pkt) (at0 : Int) (by0 : Nat) (w : World) (hg : Hdl w) (hp : p.In) (_h1 : -9223372036854775808 ≤ at0) (_h2 : at0 ≤ 9223372036854775807) (hby : by0 < 256) :
    Calls Tryd.prog 5 #[p.val, .int .i64 at0, .int .u8 by0] w fun e w' => e = .returned (.bool true) ∧ Below w.heap.size w w' := by
  have b1 := below_al (Below.refl w.heap.size w) p.obj
  have HG := Lib.hid hg
  have HS := Lib.hid (aShown_any _ (hg.below b1))
  have HX := Lib.hid (PktAt.new w p)
  have HB := Lib.hid b1
  have HP := Lib.hid hp
  have ha := and_low_i64 at0
  obtain ⟨m, hm⟩ : ∃ m : Nat, at0 % 65536 = (m : Int) := ⟨(at0 % 65536).toNat, by omega⟩
  rw [hm] at ha
  have hml : m < 65536 := by omega
  obtain ⟨j, hj, hjl⟩ : ∃ j : Nat, ((m : Int) % 28) = (j : Int) ∧ j < 28 := ⟨m % 28, by simp, by omega⟩
  obtain ⟨k, hk, hkl⟩ : ∃ k : Nat, ((m : Int) % 6) = (k : Int) ∧ k < 6 := ⟨m % 6, by simp, by omega⟩
  obtain ⟨u, hu⟩ := head_lt k hkl
  have hu2 : p.bs[k]? = some u := by rw [Pkt.bs, List.getElem?_append_left (by simpa [arpHead] using hkl)]; exact hu
  obtain ⟨y, hyl, hy, hyu⟩ := xor_u8 u.toNat by0 u.toNat_lt hby
  have HU := Lib.hid hu
  have HU2 := Lib.hid hu2
  have HY := Lib.hid hyu
  clear hg b1 hp hm _h1 _h2 hu hu2 hyu
  rw [Pkt.val_lit]
  unfold Pkt.obj at HS
  go_enter Tryd.func5, Tryd.ntmps5
  go_wp2_with fail
  refine HS.out.mono ?_
  rintro e W ⟨rfl, hl⟩
  have HX1 := Lib.hid (HX.out.below hl)
  have HB1 := Lib.hid (below_to HB.out hl HB.out.size)
  clear HS hl HX HB
  have X1 := Lib.hid (aBytes_lit p HP.out W)
  obtain ⟨c0, c1, c2, c3, c4, c5, c6, c7, c8, c9, c10, c11, c12, c13, c14⟩ := HX1.out.cells
  go_wp2_with fail
  refine X1.out.mono ?_
  clear c0 c1 c2 c3 c4 c5 c6 c7 c8 c9 c10 c11 c12 c13 c14
  rintro e w2 ⟨b, rfl, hbn, hob, hl2⟩
  have HA2 := Lib.hid (show BytesAt w2 b p.bs from hob)
  have HB2 := Lib.hid (below_to HB1.out hl2 HB1.out.size)
  have HN : Hid (w.heap.size ≤ b) := Nat.le_trans HB1.out.size hbn
  clear X1 HX1 HB1 hbn hob hl2
  have X2 := Lib.hid (aParse_short (.slice (some ⟨b, 0, none⟩) j 28) (p.bs.take j) w2 (by
    have h := HA2.out.rd.frontAt (K := j) (by rw [Pkt.bs_len]; omega)
    exact h) (by rw [List.length_take, Pkt.bs_len]; omega))
  go_wp2_with fail
  refine X2.out.mono ?_
  rintro e w3 ⟨b3, he, hc3, hl3⟩
  have he' : e = .returned (.tuple #[.agg #[.int .u16 0, .int .u8 0, .int .u8 0, .int .u8 0, .int .u8 0, .int .u8 0, .int .u8 0, .int .u32 0, .int .u8 0, .int .u8 0, .int .u8 0, .int .u8 0, .int .u8 0, .int .u8 0, .int .u32 0], .iface 80 (.pointer (some ⟨b3, 0, none⟩))]) := he
  subst he'
  have b4 := below_al (Below.refl w3.heap.size w3) noPkt.obj
  have l4 := below_to hl3 b4 hl3.size
  have HA4 := Lib.hid (HA2.out.below l4)
  have HB4 := Lib.hid (below_to HB2.out l4 HB2.out.size)
  have HC4 := Lib.hid (hc3.below b4)
  rw [noLit_eq] at HA4 HB4 HC4
  unfold noLit at HA4 HB4 HC4
  clear X2 he hc3 hl3 b4 l4 HA2 HB2
  go_upto_region 7 with fail
  generalize w3.alloc (.cells #[.int .u16 0, .int .u8 0, .int .u8 0, .int .u8 0, .int .u8 0, .int .u8 0, .int .u8 0, .int .u32 0, .int .u8 0, .int .u8 0, .int .u8 0, .int .u8 0, .int .u8 0, .int .u8 0, .int .u32 0] 29) = W4 at *
  have k4 := HA4.out.cell k u HU2.out
  have z4 := HA4.out.free k
  go_upto_region 8 with fail
  clear k4 z4
  have HA5 : Hid (BytesAt (W4.setCell ⟨b, k, none⟩ (.int .u8 y)) b (arpHead.set k (UInt8.ofNat y) ++ (be2 p.op ++ (p.sha.bs ++ (be4 p.spa ++ (p.tha.bs ++ (be4 p.tpa ++ []))))))) := by
    show BytesAt _ _ _
    have h := HA4.out.set k (UInt8.ofNat y)
    rw [p.bs_set k hkl, B8_of (show ((UInt8.ofNat y).toNat : Int) = (y : Int) by rw [ofNat_lt]; omega)] at h
    exact h
  have HB5 : Hid (Below w.heap.size w (W4.setCell ⟨b, k, none⟩ (.int .u8 y))) := HB4.out.setCell HN.out _
  have HC5 : Hid (Chain (W4.setCell ⟨b, k, none⟩ (.int .u8 y)) 2 [arpWord, octetsWord] (.iface 80 (.pointer (some ⟨b3, 0, none⟩)))) := HA4.out.chain HC4.out k _
  clear HA4 HB4 HC4
  generalize W4.setCell ⟨b, k, none⟩ (.int .u8 y) = W5 at *
  have hlen : (arpHead.set k (UInt8.ofNat y)).length = 6 := by rw [List.length_set]; rfl
  by_cases hb : by0 = 0
  · have hx : UInt8.ofNat y = u := by rw [(HY.out).2 hb]; exact UInt8.toNat_inj.1 (by rw [ofNat_lt]; exact Nat.mod_eq_of_lt u.toNat_lt)
    have hbs : arpHead.set k (UInt8.ofNat y) ++ (be2 p.op ++ (p.sha.bs ++ (be4 p.spa ++ (p.tha.bs ++ (be4 p.tpa ++ []))))) = p.bs ++ [] := by
      rw [(head_set HU.out).2 hx, List.append_nil, List.append_nil, Pkt.bs]
    rw [hbs] at HA5
    have hb1 : ((by0 : Int) != 0) = false := by simp [hb]
    have HBZ := Lib.hid hb
    clear hb hx hbs hlen
    by_cases ho : p.op = 1 ∨ p.op = 2
    · as_aux_lemma =>
        have X5 := Lib.hid (aParse_ok (.slice (some ⟨b, 0, none⟩) 28 28) p [] W5 HP.out ho (by rw [List.append_nil, Pkt.bs_len]; omega) HA5.out.rd)
        clear HA5 ho
        go_wp2_with fail
        refine X5.out.mono ?_
        rintro e w6 ⟨he, hl6⟩
        have he' : e = .returned (.tuple #[.agg #[.int .u16 p.op, .int .u8 p.sha.a.toNat, .int .u8 p.sha.b.toNat, .int .u8 p.sha.c.toNat, .int .u8 p.sha.d.toNat, .int .u8 p.sha.e.toNat, .int .u8 p.sha.f.toNat, .int .u32 p.spa, .int .u8 p.tha.a.toNat, .int .u8 p.tha.b.toNat, .int .u8 p.tha.c.toNat, .int .u8 p.tha.d.toNat, .int .u8 p.tha.e.toNat, .int .u8 p.tha.f.toNat, .int .u32 p.tpa], .nilIface]) := he
        subst he'
        have b7 := below_al (Below.refl w6.heap.size w6) p.obj
        have l7 := below_to hl6 b7 hl6.size
        have HB7 := Lib.hid (below_to HB5.out l7 HB5.out.size)
        have HC7 := Lib.hid (HC5.out.below l7)
        unfold Pkt.obj at HB7 HC7
        clear X5 he hl6 b7 l7 HB5 HC5
        go_upto_region 9 with fail
        generalize w6.alloc (.cells #[.int .u16 p.op, .int .u8 p.sha.a.toNat, .int .u8 p.sha.b.toNat, .int .u8 p.sha.c.toNat, .int .u8 p.sha.d.toNat, .int .u8 p.sha.e.toNat, .int .u8 p.sha.f.toNat, .int .u32 p.spa, .int .u8 p.tha.a.toNat, .int .u8 p.tha.b.toNat, .int .u8 p.tha.c.toNat, .int .u8 p.tha.d.toNat, .int .u8 p.tha.e.toNat, .int .u8 p.tha.f.toNat, .int .u32 p.tpa] 29) = W7 at *
        have XC := Lib.hid (code_any 2 _ _ _ (HG.out.below HB7.out) HC7.out)
        go_wp2_with fail
        refine XC.out.mono ?_
        rintro e w8 ⟨rfl, hl8⟩
        have HB8 := Lib.hid (below_to HB7.out hl8 HB7.out.size)
        have XD := Lib.hid (code_nil w8)
        clear XC hl8
        go_wp2_with fail
        refine XD.out.mono ?_
        rintro e w9 ⟨rfl, rfl⟩
        clear XD
        go_wp2_with fail
        go_ret
        exact ⟨rfl, HB8.out⟩
    · as_aux_lemma =>
        have X5 := Lib.hid (aParse_form (.slice (some ⟨b, 0, none⟩) 28 28) p [] W5 HP.out (by omega) (by omega) (by rw [List.append_nil, Pkt.bs_len]; omega) HA5.out.rd)
        clear HA5 ho
        go_wp2_with fail
        refine X5.out.mono ?_
        rintro e w6 ⟨b6, he, hc6, hl6⟩
        have he' : e = .returned (.tuple #[.agg #[.int .u16 0, .int .u8 0, .int .u8 0, .int .u8 0, .int .u8 0, .int .u8 0, .int .u8 0, .int .u32 0, .int .u8 0, .int .u8 0, .int .u8 0, .int .u8 0, .int .u8 0, .int .u8 0, .int .u32 0], .iface 80 (.pointer (some ⟨b6, 0, none⟩))]) := he
        subst he'
        have b7 := below_al (Below.refl w6.heap.size w6) noPkt.obj
        have l7 := below_to hl6 b7 hl6.size
        have HB7 := Lib.hid (below_to HB5.out l7 HB5.out.size)
        have HC7 := Lib.hid (HC5.out.below l7)
        have HD7 := Lib.hid (hc6.below b7)
        rw [noLit_eq] at HB7 HC7 HD7
        unfold noLit at HB7 HC7 HD7
        clear X5 he hc6 hl6 b7 l7 HB5 HC5
        go_upto_region 9 with fail
        generalize w6.alloc (.cells #[.int .u16 0, .int .u8 0, .int .u8 0, .int .u8 0, .int .u8 0, .int .u8 0, .int .u8 0, .int .u32 0, .int .u8 0, .int .u8 0, .int .u8 0, .int .u8 0, .int .u8 0, .int .u8 0, .int .u32 0] 29) = W7 at *
        have XC := Lib.hid (code_any 2 _ _ _ (HG.out.below HB7.out) HC7.out)
        go_wp2_with fail
        refine XC.out.mono ?_
        rintro e w8 ⟨rfl, hl8⟩
        have HB8 := Lib.hid (below_to HB7.out hl8 HB7.out.size)
        have XD := Lib.hid (code_any 3 _ _ _ (HG.out.below HB8.out) (HD7.out.below hl8))
        clear XC hl8
        go_wp2_with fail
        refine XD.out.mono ?_
        rintro e w9 ⟨rfl, hl9⟩
        have HB9 := Lib.hid (below_to HB8.out hl9 HB8.out.size)
        clear XD hl9
        go_wp2_with fail
        go_ret
        exact ⟨rfl, HB9.out⟩
  · as_aux_lemma =>
      have hne : arpHead.set k (UInt8.ofNat y) ≠ arpHead := by
        intro e
        have hx := (head_set HU.out).1 e
        apply hb
        apply (HY.out).1
        have h2 := congrArg UInt8.toNat hx
        rw [ofNat_lt, Nat.mod_eq_of_lt hyl] at h2
        exact h2
      have ht : (be2 p.op ++ (p.sha.bs ++ (be4 p.spa ++ (p.tha.bs ++ (be4 p.tpa ++ []))))).length = 22 := rfl
      have e28 : (arpHead.set k (UInt8.ofNat y) ++ (be2 p.op ++ (p.sha.bs ++ (be4 p.spa ++ (p.tha.bs ++ (be4 p.tpa ++ [])))))).length = 28 := by rw [List.length_append, hlen, ht]
      have hr : Rd W5 (.slice (some ⟨b, 0, none⟩) 28 28) (arpHead.set k (UInt8.ofNat y) ++ (be2 p.op ++ (p.sha.bs ++ (be4 p.spa ++ (p.tha.bs ++ (be4 p.tpa ++ [])))))) := by
        have h := HA5.out.rd
        rwa [e28] at h
      have X5 := Lib.hid (aParse_proto (.slice (some ⟨b, 0, none⟩) 28 28) _ p [] W5 hlen HP.out hne (by rw [e28]; decide) hr)
      have hb1 : ((by0 : Int) != 0) = true := by simp; omega
      clear hne hr hlen ht e28 HA5 hb
      go_wp2_with fail
      refine X5.out.mono ?_
      rintro e w6 ⟨b6, he, hc6, hl6⟩
      have he' : e = .returned (.tuple #[.agg #[.int .u16 0, .int .u8 0, .int .u8 0, .int .u8 0, .int .u8 0, .int .u8 0, .int .u8 0, .int .u32 0, .int .u8 0, .int .u8 0, .int .u8 0, .int .u8 0, .int .u8 0, .int .u8 0, .int .u32 0], .iface 80 (.pointer (some ⟨b6, 0, none⟩))]) := he
      subst he'
      have b7 := below_al (Below.refl w6.heap.size w6) noPkt.obj
      have l7 := below_to hl6 b7 hl6.size
      have HB7 := Lib.hid (below_to HB5.out l7 HB5.out.size)
      have HC7 := Lib.hid (HC5.out.below l7)
      have HD7 := Lib.hid (hc6.below b7)
      rw [noLit_eq] at HB7 HC7 HD7
      unfold noLit at HB7 HC7 HD7
      clear X5 he hc6 hl6 b7 l7 HB5 HC5
      go_upto_region 9 with fail
      generalize w6.alloc (.cells #[.int .u16 0, .int .u8 0, .int .u8 0, .int .u8 0, .int .u8 0, .int .u8 0, .int .u8 0, .int .u32 0, .int .u8 0, .int .u8 0, .int .u8 0, .int .u8 0, .int .u8 0, .int .u8 0, .int .u32 0] 29) = W7 at *
      have XC := Lib.hid (code_any 2 _ _ _ (HG.out.below HB7.out) HC7.out)
      go_wp2_with fail
      refine XC.out.mono ?_
      rintro e w8 ⟨rfl, hl8⟩
      have HB8 := Lib.hid (below_to HB7.out hl8 HB7.out.size)
      have XD := Lib.hid (code_any 12 _ _ _ (HG.out.below HB8.out) (HD7.out.below hl8))
      clear XC hl8
      go_wp2_with fail
      refine XD.out.mono ?_
      rintro e w9 ⟨rfl, hl9⟩
      have HB9 := Lib.hid (below_to HB8.out hl9 HB8.out.size)
      clear XD hl9
      go_wp2_with fail
      go_ret
      exact ⟨rfl, HB9.out⟩
end Go.Proofs.YtjfghobhneogjaaDoor
