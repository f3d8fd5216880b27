/-
  What is proved: Ipv4Spoilt of the laws of layer 5 by contract.
  Conditions: errors.errorType holds the handle of the type error; the packet's numbers fit their types; the bytes' capacity is an int.
-/
import Derived.Test.YteglhfhkombkhaaDoorVOwn
namespace Go.Proofs.YteglhfhkombkhaaDoor
open Go.RowKit

theorem set_same {l : List UInt8} {j : Nat} {a : UInt8} (h : l[j]? = some a) : l.set j a = l := by
  apply List.ext_getElem?
  intro i
  rw [List.getElem?_set]
  split
  · rename_i e
    subst e
    rw [h]
    split
    · rfl
    · rename_i h2
      have := (List.getElem?_eq_some_iff.1 h).1
      omega
  · rfl
set_option maxRecDepth 100000 in
set_option maxHeartbeats 4000000 in
theorem ipv4Spoilt_any (p : Ip) (A0 : Option Addr) (c0 : Nat) (n1 : Int) (n2 : Nat) (n3 : Int) (w : World) (hg : Hdl w) (hf : p.Fit) (hr : Rd w (.slice A0 p.b.length c0) p.b) (hc : c0 ≤ 9223372036854775807)
    (_ : -9223372036854775808 ≤ n1) (_ : n1 ≤ 9223372036854775807) (hn2 : n2 < 256) (_ : -9223372036854775808 ≤ n3) (_ : n3 ≤ 9223372036854775807) :
    Calls Tryd.prog 5 #[p.val (.slice A0 p.b.length c0), .int .i64 n1, .int .u8 (n2 : Int), .int .i64 n3] w fun e w' => e = .returned (.bool true) ∧ Below w.heap.size w w' := by
  have b1 := below_al (Below.refl w.heap.size w) (p.obj (.slice A0 p.b.length c0))
  have HG := Lib.hid hg
  have HS := Lib.hid (vShown_any _ (hg.below b1))
  have HX := Lib.hid (IpAt.new w p (.slice A0 p.b.length c0))
  have HB := Lib.hid b1
  have HF := Lib.hid hf
  have HR := Lib.hid hr
  have HC := Lib.hid hc
  have HN2 := Lib.hid hn2
  have a1 := and_low_i64 n1
  have a3 := and_low_i64 n3
  obtain ⟨u1, hu1⟩ : ∃ u : Nat, n1 % 65536 = (u : Int) := ⟨(n1 % 65536).toNat, by omega⟩
  obtain ⟨u3, hu3⟩ : ∃ u : Nat, n3 % 65536 = (u : Int) := ⟨(n3 % 65536).toNat, by omega⟩
  rw [hu1] at a1
  rw [hu3] at a3
  obtain ⟨j, hj⟩ : ∃ j : Nat, u1 % 20 = j := ⟨_, rfl⟩
  have j1 : (u1 : Int).tmod 20 = (j : Int) := by rw [Int.tmod_eq_emod_of_nonneg (by omega)]; omega
  have j2 : (u1 : Int) % 20 = (j : Int) := by omega
  have jb : (j : Int) < 20 := by omega
  have HJ : Hid (j < 20) := by show _ < _; omega
  clear hg b1 hf hr hc hn2 hu1 hu3 hj
  rw [Ip.val_lit]
  unfold Ip.obj at HS
  go_enter Tryd.func5, Tryd.ntmps5
  go_wp2_with fail
  refine HS.out.mono ?_
  rintro e w1 ⟨rfl, hl⟩
  have HX1 := Lib.hid (HX.out.below hl)
  have HB1 := Lib.hid (below_to HB.out hl HB.out.size)
  clear HS hl HX HB
  obtain ⟨d0, d1, d2, d3, d4, d5, d6, d7, d8, d9⟩ := HX1.out.cells
  go_wp2_with fail
  refine (few_lit p A0 c0 w1 HF.out (HR.out.below HB1.out) HC.out).mono ?_
  rintro e w2 ⟨q, g, k, hq, rfl, hrq, hgg, hl2⟩
  have HQ := Lib.hid hq
  have HRQ := Lib.hid hrq
  have HB2 := Lib.hid (below_to HB1.out hl2 HB1.out.size)
  clear hq hrq hgg hl2 d0 d1 d2 d3 d4 d5 d6 d7 d8 d9 HX1 HB1 HR HF HC
  by_cases hbad : q.bad = 0
  · have HBAD := Lib.hid hbad
    obtain ⟨M, hM⟩ : ∃ M, q.bs.length = M := ⟨_, rfl⟩
    have X := bytes_ok q HQ.out hbad (some ⟨g, 0, none⟩) k w2 HRQ.out
    rw [hM] at X
    have M1 : (M : Int) ≤ 3020 := by have := HQ.out.bs_le; omega
    have M2 : 20 ≤ (M : Int) := by have := q.bs_ge; omega
    have M3 : ((M : Int) == 0) = false := by simp; omega
    have M4 : decide ((M : Int) = 0) = false := decide_eq_false (by omega)
    have HM := Lib.hid hM
    have HX := Lib.hid X
    clear X hM hbad
    go_wp2_with fail
    refine HX.out.mono ?_
    rintro e w3 ⟨b, rfl, hbn, hy, hl3⟩
    have HNB : Hid (w.heap.size ≤ b) := by have := HB2.out.size; show _ ≤ _; omega
    obtain ⟨t, ht⟩ : ∃ t : Nat, u3 % M = t := ⟨_, rfl⟩
    have t0 : t < M := by rw [← ht]; exact Nat.mod_lt _ (by omega)
    have t1 : (u3 : Int).tmod (M : Int) = (t : Int) := by rw [Int.tmod_eq_emod_of_nonneg (by omega), ← ht, Int.natCast_emod]
    have t2 : (u3 : Int) % (M : Int) = (t : Int) := by rw [← ht, Int.natCast_emod]
    have t3 : (t : Int) ≤ (M : Int) := by omega
    have HT := Lib.hid t0
    have HY3 := Lib.hid hy
    have HB3 := Lib.hid (below_to HB2.out hl3 HB2.out.size)
    have HR3 : Hid (Rd w3 (.slice (some ⟨b, 0, none⟩) t M) (q.bs.take t)) := by
      have h := hy.rd.front (K := t) (by rw [HM.out]; omega)
      rw [HM.out] at h
      exact h
    clear ht t0 hy hl3 hbn HB2 HX
    go_wp2_with fail
    refine (parse_cut q HQ.out HBAD.out t (by rw [HM.out]; exact HT.out) _ w3 HR3.out).mono ?_
    rintro e w4 ⟨l4, b4, he, hc4, hl4⟩
    have he' : e = .returned (.tuple #[.agg #[.int .u8 0, .int .u16 0, .bool false, .bool false, .int .i64 0, .int .u8 0, .int .u8 0, .int .u32 0, .int .u32 0, .slice none 0 0], .iface 81 (.pointer (some ⟨b4, 0, none⟩))]) := he
    subst he'
    have hb5 := below_al (Below.refl w4.heap.size w4) (.cells #[.int .u8 0, .int .u16 0, .bool false, .bool false, .int .i64 0, .int .u8 0, .int .u8 0, .int .u32 0, .int .u32 0, .slice none 0 0] 27)
    have l5 := below_to hl4 hb5 hl4.size
    have HY5 := Lib.hid (HY3.out.below l5)
    have HB5 := Lib.hid (below_to HB3.out l5 HB3.out.size)
    have HC5 := Lib.hid (hc4.below hb5)
    clear he hc4 hl4 hb5 l5 HY3 HB3 HR3 t1 t2 t3 a3
    go_upto_region 8 with fail
    generalize w4.alloc (.cells #[.int .u8 0, .int .u16 0, .bool false, .bool false, .int .i64 0, .int .u8 0, .int .u8 0, .int .u32 0, .int .u32 0, .slice none 0 0] 27) = W5 at *
    go_wp2_with fail
    refine (code_any 2 _ _ _ (HG.out.below HB5.out) HC5.out).mono ?_
    rintro e w6 ⟨rfl, hl6⟩
    have HB6 := Lib.hid (below_to HB5.out hl6 HB5.out.size)
    have HY6 := Lib.hid (HY5.out.below hl6)
    clear hl6 HB5 HY5 HC5
    obtain ⟨a, ha⟩ : ∃ a, q.bs[j]? = some a := by
      have h : j < q.bs.length := by have := q.bs_ge; have := HJ.out; omega
      exact ⟨_, List.getElem?_eq_getElem h⟩
    obtain ⟨x, hx1, hx2⟩ := byte_xor a n2 HN2.out
    have k6 := HY6.out.cell j a ha
    have z6 := HY6.out.free j
    have HA := Lib.hid ha
    have HXA := Lib.hid hx2
    have jm : (j : Int) < (M : Int) := by omega
    clear ha hx2
    go_upto_region 11 with fail
    have HY7 := Lib.hid (HY6.out.set j x)
    have HB7 : Hid (Below w.heap.size w (w6.setCell ⟨b, j, none⟩ (B8 x))) := HB6.out.setCell (by have := HNB.out; show w.heap.size ≤ b; omega) _
    unfold B8 at HY7 HB7
    clear k6 z6 HY6 HB6 a1 j1 j2 hx1
    generalize w6.setCell ⟨b, j, none⟩ (.int .u8 (x.toNat : Int)) = W7 at *
    have HR7 : Hid (Rd W7 (.slice (some ⟨b, 0, none⟩) M M) (q.bs.set j x)) := by
      have h := HY7.out.rd
      rw [List.length_set, HM.out] at h
      exact h
    clear HY7
    by_cases hz : n2 = 0
    · have hxa : x = a := HXA.out.2 hz
      have hset : q.bs.set j x = q.bs ++ [] := by rw [hxa, set_same HA.out, List.append_nil]
      have HR8 : Hid (Rd W7 (.slice (some ⟨b, 0, none⟩) M M) (q.bs ++ [])) := by rw [← hset]; exact HR7.out
      clear hxa hset HR7 HA HXA
      subst hz
      go_wp2_with fail
      refine (vParse_of q HQ.out.inn HBAD.out [] _ W7 HR8.out (by have := HQ.out.bs_le; rw [List.append_nil]; omega)).mono ?_
      rintro e w8 ⟨b8, he, _, _, hl8⟩
      have he' : e = .returned (.tuple #[.agg #[.int .u8 q.tos, .int .u16 q.id, .bool q.df, .bool q.mf, .int .i64 q.off, .int .u8 q.ttl, .int .u8 q.proto, .int .u32 q.src, .int .u32 q.dst, .slice (some ⟨b8, 0, none⟩) q.b.length q.b.length], .nilIface]) := he
      subst he'
      have hb9 := below_al (Below.refl w8.heap.size w8) (.cells #[.int .u8 q.tos, .int .u16 q.id, .bool q.df, .bool q.mf, .int .i64 q.off, .int .u8 q.ttl, .int .u8 q.proto, .int .u32 q.src, .int .u32 q.dst, .slice (some ⟨b8, 0, none⟩) q.b.length q.b.length] 27)
      have HB9 := Lib.hid (below_to HB7.out (below_to hl8 hb9 hl8.size) HB7.out.size)
      clear he hl8 hb9
      go_wp2_with fail
      go_ret
      exact ⟨rfl, HB9.out⟩
    · have hn : x ≠ a := fun e => hz (HXA.out.1 e)
      have X := Lib.hid (parse_spoilt q HQ.out j HJ.out a x HA.out hn _ W7 HR7.out)
      have z1 : ((n2 : Int) == 0) = false := by simpa using hz
      have z2 : decide ((n2 : Int) = 0) = false := decide_eq_false (by omega)
      have z3 : decide (n2 = 0) = false := decide_eq_false hz
      clear hn HXA HA
      go_wp2_with fail
      refine X.out.mono ?_
      rintro e w8 ⟨n8, l8, b8, he, _, hl8⟩
      have he' : e = .returned (.tuple #[.agg #[.int .u8 0, .int .u16 0, .bool false, .bool false, .int .i64 0, .int .u8 0, .int .u8 0, .int .u32 0, .int .u32 0, .slice none 0 0], .iface 81 (.pointer (some ⟨b8, 0, none⟩))]) := he
      subst he'
      have hb9 := below_al (Below.refl w8.heap.size w8) (.cells #[.int .u8 0, .int .u16 0, .bool false, .bool false, .int .i64 0, .int .u8 0, .int .u8 0, .int .u32 0, .int .u32 0, .slice none 0 0] 27)
      have HB9 := Lib.hid (below_to HB7.out (below_to hl8 hb9 hl8.size) HB7.out.size)
      clear he hl8 hb9 X
      go_wp2_with fail
      go_ret
      exact ⟨rfl, HB9.out⟩
  · have X := Lib.hid (bytes_bad q HQ.out hbad (some ⟨g, 0, none⟩) k w2)
    clear hbad
    go_wp2_with fail
    refine X.out.mono ?_
    rintro e w3 ⟨b, rfl, _, hl3⟩
    have HB3 := Lib.hid (below_to HB2.out hl3 HB2.out.size)
    clear hl3 HB2 X
    go_wp2_with fail
    go_ret
    exact ⟨rfl, HB3.out⟩
end Go.Proofs.YteglhfhkombkhaaDoor
