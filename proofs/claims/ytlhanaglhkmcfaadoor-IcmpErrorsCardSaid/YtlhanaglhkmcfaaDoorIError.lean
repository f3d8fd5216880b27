/-
  What is proved: icmp.Error by contract: bytes that are no packet's head, a packet of which nobody is told, a packet.
  Conditions: the packet's numbers fit their types.
-/
import Derived.Test.YtlhanaglhkmcfaaDoorIErr
namespace Go.Proofs.YtlhanaglhkmcfaaDoor
open Go.RowKit

set_option maxRecDepth 100000 in
set_option maxHeartbeats 2000000 in
theorem iError_short (bs : List UInt8) (v : Value) (t c r : Int) (w : World) (hr : Rd w v bs) (hs : bs.length < 20) :
    Calls Tryd.prog 11 #[v, .int .u8 t, .int .u8 c, .int .u32 r] w (MW 2 [icmpWord, ipWord, octetsWord] w) := by
  have hx := MsAt.new w noMs (.slice none 0 0)
  rw [noMs_obj] at hx
  have HX := Lib.hid hx
  have HB := Lib.hid (below_al (Below.refl w.heap.size w) noMsObj)
  have HU := Lib.hid (vParse_short bs v (w.alloc noMsObj) (hr.below (below_al (Below.refl _ _) _)) hs)
  clear hr hs hx
  generalize hW : w.alloc noMsObj = W at HX HB HU
  unfold noMsObj at hW
  unfold VErr noIpVal at HU
  unfold MW icmpWord
  go_enter Tryd.func11, Tryd.ntmps11
  go_upto_region 1 with fail
  clear hW
  go_wp2_with fail
  refine HU.out.mono ?_
  rintro e w1 ⟨b1, rfl, hc, hb⟩
  have hb2 := below_al (Below.refl w1.heap.size w1) noIpObj
  have HC := Lib.hid (hc.below hb2)
  have HZ0 := Lib.hid ((HX.out.below hb).below hb2)
  have HQ0 := Lib.hid (below_to HB.out (below_to hb hb2 hb.size) HB.out.size)
  clear hc hb hb2 HU HX HB
  unfold noIpObj at HC HZ0 HQ0
  go_upto_region 3 with fail
  generalize hW2 : w1.alloc (.cells #[.int .u8 0, .int .u16 0, .bool false, .bool false, .int .i64 0, .int .u8 0, .int .u8 0, .int .u32 0, .int .u32 0, .slice none 0 0] 41) = w2 at *
  clear hW2
  go_wp2_with fail
  refine (wrap_any _ _ _ _).mono ?_
  rintro e w3 ⟨rfl, rfl⟩
  have hc := chain_wrapped ⟨#[105, 99, 109, 112]⟩ HC.out
  have hb := below_al (Below.refl w2.heap.size w2) (.cells #[.string ⟨#[105, 99, 109, 112]⟩, .iface 87 (.pointer (some ⟨b1, 0, none⟩))] 89)
  have HZ := Lib.hid (HZ0.out.below hb)
  have HQ := Lib.hid (below_to HQ0.out hb HQ0.out.size)
  have HC2 := Lib.hid hc
  clear hc hb HC HZ0 HQ0
  go_wp2_with (refine wpList_store_row rfl 25 (.tmp 8) (.tmp 19) rfl w.heap.size noMsRow rfl rfl 25 _ HZ.out msSize rfl noMsRow_one ?_)
  (try simp only [Exit.inBlock, Exit.then])
  refine bodyPost_ret (results_cell_tmp_row rfl _ _ w.heap.size _ noMsRow (0, 0) _ rfl (setRow_heap _ _ _ _ _ _ HZ.out) Tryd.underlying25 rfl msSize) rfl ?_
  exact ⟨_, rfl, HC2.out.row HZ.out noMsRow_plain, ((Fr.of_below (p := fun _ => False) HQ.out).row (Nat.le_refl _) _).below (Nat.le_refl _) (fun _ h => h.elim)⟩
set_option maxRecDepth 100000 in
set_option maxHeartbeats 4000000 in
theorem iError_state (p : Ip) (hp : p.In) (hn : p.bad = 0) (ht : p.tell = false) (v : Value) (t c r : Int) (w : World) (hr : Rd w v p.bs) (hL : p.bs.length ≤ 1099511627776) :
    Calls Tryd.prog 11 #[v, .int .u8 t, .int .u8 c, .int .u32 r] w (MW 8 [icmpWord] w) := by
  have hx := MsAt.new w noMs (.slice none 0 0)
  rw [noMs_obj] at hx
  have HX := Lib.hid hx
  have HB := Lib.hid (below_al (Below.refl w.heap.size w) noMsObj)
  have HU := Lib.hid (vParse_of p hp hn [] v (w.alloc noMsObj) (by rw [List.append_nil]; exact hr.below (below_al (Below.refl _ _) _)) (by rw [List.append_nil]; exact hL))
  have HT := Lib.hid ht
  have HP := Lib.hid hp
  clear hr hp hn ht hx hL
  generalize hW : w.alloc noMsObj = W at HX HB HU
  unfold noMsObj at hW
  unfold InOk Ip.val Ip.row at HU
  unfold MW icmpWord
  go_enter Tryd.func11, Tryd.ntmps11
  go_upto_region 1 with fail
  clear hW
  go_wp2_with fail
  refine HU.out.mono ?_
  rintro e w1 ⟨b1, rfl, hb1, hy, hb⟩
  have hb2 := below_al (Below.refl w1.heap.size w1) (p.obj (.slice (some ⟨b1, 0, none⟩) p.b.length p.b.length))
  have HY := Lib.hid ((show BAt w1 b1 p.b from hy).below hb2)
  have HZ0 := Lib.hid ((HX.out.below hb).below hb2)
  have HP0 := Lib.hid (IpAt.new w1 p (.slice (some ⟨b1, 0, none⟩) p.b.length p.b.length))
  have HQ0 := Lib.hid (below_to HB.out (below_to hb hb2 hb.size) HB.out.size)
  clear hb1 hy hb hb2 HU HX HB
  go_upto_region 4 with fail
  generalize hW2 : w1.alloc (p.obj (.slice (some ⟨b1, 0, none⟩) p.b.length p.b.length)) = w2 at *
  unfold Ip.obj at hW2
  (try rw [hW2])
  clear hW2
  generalize w1.heap.size = g4 at *
  obtain ⟨d0, d1, d2, d3, d4, d5, d6, d7, d8, d9⟩ := HP0.out.cells
  go_wp2_with fail
  refine (mayTell_any p (some ⟨b1, 0, none⟩) p.b.length w2 HY.out.rd HP.out.b).mono ?_
  rintro e w3 ⟨rfl, hl3⟩
  rw [HT.out]
  have HZ3 := Lib.hid (HZ0.out.below hl3)
  have HQ3 := Lib.hid (below_to HQ0.out hl3 HQ0.out.size)
  clear d0 d1 d2 d3 d4 d5 d6 d7 d8 d9 hl3 HZ0 HQ0 HP0 HY
  go_wp2_with fail
  refine (wrap_any _ _ _ _).mono ?_
  rintro e w4 ⟨rfl, rfl⟩
  have hc : Chain (w3.alloc (.cells #[.string ⟨#[105, 99, 109, 112]⟩, .iface 35 (.int .i64 8)] 89)) 8 [⟨#[105, 99, 109, 112]⟩] _ := chain_one w3 ⟨#[105, 99, 109, 112]⟩ 8
  have hb := below_al (Below.refl w3.heap.size w3) (.cells #[.string ⟨#[105, 99, 109, 112]⟩, .iface 35 (.int .i64 8)] 89)
  have HZ := Lib.hid (HZ3.out.below hb)
  have HQ := Lib.hid (below_to HQ3.out hb HQ3.out.size)
  have HC2 := Lib.hid hc
  clear hc hb HZ3 HQ3
  go_wp2_with (refine wpList_store_row rfl 25 (.tmp 8) (.tmp 25) rfl w.heap.size noMsRow rfl rfl 25 _ HZ.out msSize rfl noMsRow_one ?_)
  (try simp only [Exit.inBlock, Exit.then])
  refine bodyPost_ret (results_cell_tmp_row rfl _ _ w.heap.size _ noMsRow (0, 0) _ rfl (setRow_heap _ _ _ _ _ _ HZ.out) Tryd.underlying25 rfl msSize) rfl ?_
  exact ⟨_, rfl, HC2.out.row HZ.out noMsRow_plain, ((Fr.of_below (p := fun _ => False) HQ.out).row (Nat.le_refl _) _).below (Nat.le_refl _) (fun _ h => h.elim)⟩
/-- How many bytes of a packet an error has. -/
def Ip.beg (p : Ip) : Nat := 20 + min p.b.length 8
theorem Ip.beg_le (p : Ip) : p.beg ≤ p.bs.length := by rw [Ip.bs_len]; unfold Ip.beg; omega
set_option maxRecDepth 100000 in
set_option maxHeartbeats 4000000 in
theorem iError_ok (p : Ip) (hp : p.In) (hn : p.bad = 0) (ht : p.tell = true) (g C : Nat) (t c r : Int) (w : World) (hr : Rd w (.slice (some ⟨g, 0, none⟩) p.bs.length C) p.bs) (hL : p.bs.length ≤ 1099511627776) :
    Calls Tryd.prog 11 #[.slice (some ⟨g, 0, none⟩) p.bs.length C, .int .u8 t, .int .u8 c, .int .u32 r] w fun e w' => ∃ b k, e = .returned (.tuple #[.agg #[.int .u8 t, .int .u8 c, .int .u32 r, .slice (some ⟨b, 0, none⟩) p.beg k], .nilIface]) ∧ w.heap.size ≤ b ∧ Rd w' (.slice (some ⟨b, 0, none⟩) p.beg k) (p.bs.take p.beg) ∧ Below w.heap.size w w' := by
  have hx := MsAt.new w noMs (.slice none 0 0)
  rw [noMs_obj] at hx
  have HX := Lib.hid hx
  have HB := Lib.hid (below_al (Below.refl w.heap.size w) noMsObj)
  have HU := Lib.hid (vParse_of p hp hn [] (.slice (some ⟨g, 0, none⟩) p.bs.length C) (w.alloc noMsObj) (by rw [List.append_nil]; exact hr.below (below_al (Below.refl _ _) _)) (by rw [List.append_nil]; exact hL))
  have HT := Lib.hid ht
  have HP := Lib.hid hp
  have HR := Lib.hid hr
  have HL := Lib.hid hL
  have HBE := Lib.hid p.beg_le
  have HG : Hid (w.heap.size < (w.alloc noMsObj).heap.size) := by show _ < _; simp
  clear hr hp hn ht hx hL
  generalize hW : w.alloc noMsObj = W at HX HB HU HG
  unfold noMsObj at hW
  unfold InOk Ip.val Ip.row at HU
  have HBG : Hid (∀ (A : Option Addr) (c : Nat) (W : World), Below w.heap.size w W → Calls Tryd.prog 25 #[.slice (some ⟨g, 0, none⟩) p.bs.length C, .agg #[.int .u8 p.tos, .int .u16 p.id, .bool p.df, .bool p.mf, .int .i64 p.off, .int .u8 p.ttl, .int .u8 p.proto, .int .u32 p.src, .int .u32 p.dst, .slice A p.b.length c]] W
      fun e w' => ∃ b k, e = .returned (.slice (some ⟨b, 0, none⟩) p.beg k) ∧ W.heap.size ≤ b ∧ Rd w' (.slice (some ⟨b, 0, none⟩) p.beg k) (p.bs.take p.beg) ∧ Below W.heap.size W w') := fun A c W h => beginning_any p A c p.bs g p.bs.length C W (HR.out.below h) HL.out HBE.out
  clear HBE HL
  generalize p.beg = T at *
  obtain ⟨N, hN⟩ : ∃ N, p.bs.length = N := ⟨_, rfl⟩
  simp only [hN] at HU HBG ⊢
  clear hN HR
  go_enter Tryd.func11, Tryd.ntmps11
  go_upto_region 1 with fail
  clear hW
  go_wp2_with fail
  refine HU.out.mono ?_
  rintro e w1 ⟨b1, rfl, hb1, hy, hb⟩
  have hb2 := below_al (Below.refl w1.heap.size w1) (p.obj (.slice (some ⟨b1, 0, none⟩) p.b.length p.b.length))
  have HY := Lib.hid ((show BAt w1 b1 p.b from hy).below hb2)
  have HZ0 := Lib.hid ((HX.out.below hb).below hb2)
  have HP0 := Lib.hid (IpAt.new w1 p (.slice (some ⟨b1, 0, none⟩) p.b.length p.b.length))
  have HQ0 := Lib.hid (below_to HB.out (below_to hb hb2 hb.size) HB.out.size)
  clear hb1 hy hb hb2 HU HX HB
  go_upto_region 4 with fail
  generalize hW2 : w1.alloc (p.obj (.slice (some ⟨b1, 0, none⟩) p.b.length p.b.length)) = w2 at *
  unfold Ip.obj at hW2
  (try rw [hW2])
  clear hW2
  generalize w1.heap.size = g4 at *
  obtain ⟨d0, d1, d2, d3, d4, d5, d6, d7, d8, d9⟩ := HP0.out.cells
  go_wp2_with fail
  refine (mayTell_any p (some ⟨b1, 0, none⟩) p.b.length w2 HY.out.rd HP.out.b).mono ?_
  rintro e w3 ⟨rfl, hl3⟩
  rw [HT.out]
  have HZ3 := Lib.hid (HZ0.out.below hl3)
  have HQ3 := Lib.hid (below_to HQ0.out hl3 HQ0.out.size)
  have HP3 := Lib.hid (HP0.out.below hl3)
  clear d0 d1 d2 d3 d4 d5 d6 d7 d8 d9 hl3 HZ0 HQ0 HP0 HY
  go_upto_region 6 with fail
  obtain ⟨d0, d1, d2, d3, d4, d5, d6, d7, d8, d9⟩ := HP3.out.cells
  have XB := Lib.hid (HBG.out (some ⟨b1, 0, none⟩) p.b.length w3 HQ3.out)
  go_wp2_with fail
  refine XB.out.mono ?_
  rintro e w4 ⟨b, k, rfl, hbn, hrd, hl4⟩
  clear d0 d1 d2 d3 d4 d5 d6 d7 d8 d9
  have HZ := Lib.hid (HZ3.out.below hl4)
  have HQ := Lib.hid (below_to HQ3.out hl4 HQ3.out.size)
  have HRD := Lib.hid hrd
  have HBN : Hid (w.heap.size < b) := by have := HZ3.out.lt; show _ < _; omega
  clear hbn hrd hl4 HZ3 HQ3 HP3 XB
  go_wp2_with (refine wpList_store_row rfl 25 (.tmp 8) (.tmp 34) rfl w.heap.size #[.int .u8 t, .int .u8 c, .int .u32 r, .slice (some ⟨b, 0, none⟩) T k] rfl rfl 25 _ HZ.out msSize rfl (by simp [Value.oneCell']) ?_)
  (try simp only [Exit.inBlock, Exit.then])
  refine bodyPost_ret (results_cell_tmp_row rfl _ _ w.heap.size _ #[.int .u8 t, .int .u8 c, .int .u32 r, .slice (some ⟨b, 0, none⟩) T k] (0, 0) _ rfl (setRow_heap _ _ _ _ _ _ HZ.out) Tryd.underlying25 rfl msSize) rfl ?_
  exact ⟨b, k, rfl, Nat.le_of_lt HBN.out, rd_row HRD.out (Nat.ne_of_gt HBN.out) _, ((Fr.of_below (p := fun _ => False) HQ.out).row (Nat.le_refl _) _).below (Nat.le_refl _) (fun _ h => h.elim)⟩
end Go.Proofs.YtlhanaglhkmcfaaDoor
