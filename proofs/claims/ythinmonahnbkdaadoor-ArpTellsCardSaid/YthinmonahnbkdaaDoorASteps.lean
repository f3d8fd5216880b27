/-
  What is proved: the steps of arp.Parse by contract.
  Conditions: the bytes are fewer than 2^40.
-/
import Derived.Test.YthinmonahnbkdaaDoorARg
namespace Go.Proofs.YthinmonahnbkdaaDoor
open Go.RowKit

section
variable {w W : World} {n : Nat} {rs hd : List UInt8} {pk : Pkt}
theorem Rg.drew (h : Rg w n rs hd pk W) : Rg w n rs hd pk W.drew := h.below (below_drew W)
theorem Rg.from_ (h : Rg w n rs hd pk W) : W.cell? ⟨n + 3, 0, none⟩ = some (.pointer (some ⟨n + 2, 0, none⟩)) := h.cell 0

set_option maxHeartbeats 1000000 in
theorem readHead_ok (h : Rg w n rs hd pk W) (h6 : 6 ≤ rs.length) :
    Calls Tryd.prog 14 #[.pointer (some ⟨n + 3, 0, none⟩)] W fun e w' => e = .returned .nilIface ∧ Rg w n (rs.drop 6) (rs.take 6) pk w' := by
  have c0 := h.from_
  have HT := Lib.hid (h.bytes h6)
  have HL : Hid ((rs.take 6).length = 6) := by show _ = _; rw [List.length_take]; omega
  clear h h6
  go_enter Tryd.func14, Tryd.ntmps14
  go_wp2_with fail
  refine HT.out.mono ?_
  rintro e w1 ⟨b, rfl, h1, ho, _⟩
  have v1 := convert_rd (show Rd w1 (.slice (some ⟨b, 0, none⟩) 6 6) (rs.take 6) from by have := Rd.of_obj ho (Nat.le_refl _); rwa [HL.out] at this)
  have H1 := Lib.hid h1
  have k1 := h1.cell 1
  have z1 := h1.free 1
  simp only [rgRow] at k1
  clear h1 ho HT c0
  go_wp2_with fail
  go_ret
  exact ⟨rfl, H1.out.set 1 _ rfl⟩
set_option maxHeartbeats 1000000 in
theorem readHead_short (h : Rg w n rs hd pk W) (h6 : rs.length < 6) :
    Calls Tryd.prog 14 #[.pointer (some ⟨n + 3, 0, none⟩)] W fun e w' => ∃ b, e = .returned (.iface 76 (.pointer (some ⟨b, 0, none⟩))) ∧ w'.heap[b]? = some (wrongObj octetsWord 2) ∧ ∃ rs2 hd2 pk2, Rg w n rs2 hd2 pk2 w' := by
  have c0 := h.from_
  have HT := Lib.hid (h.bytes_short h6)
  clear h h6
  go_enter Tryd.func14, Tryd.ntmps14
  go_wp2_with fail
  refine HT.out.mono ?_
  rintro e w1 ⟨b, rfl, h1, ho, hb⟩
  have v1 := convert_rd (Rd.nil w1)
  have H1 := Lib.hid h1
  have HO := Lib.hid ho
  have k1 := h1.cell 1
  have z1 := h1.free 1
  simp only [rgRow] at k1
  clear h1 ho HT c0
  go_wp2_with fail
  go_ret
  exact ⟨b, rfl, block_set _ _ _ HO.out (by omega), _, _, _, H1.out.set (hd' := []) 1 _ rfl⟩
set_option maxHeartbeats 1000000 in
theorem readOp_ok {a b : UInt8} (h : Rg w n (a :: b :: rs) hd pk W) :
    Calls Tryd.prog 15 #[.pointer (some ⟨n + 3, 0, none⟩)] W fun e w' => e = .returned .nilIface ∧ Rg w n rs hd { pk with op := a.toNat * 256 + b.toNat } w' := by
  have c0 := h.from_
  have HT := Lib.hid h.u16
  clear h
  go_enter Tryd.func15, Tryd.ntmps15
  go_wp2_with fail
  refine HT.out.mono ?_
  rintro e w1 ⟨rfl, h1⟩
  have H1 := Lib.hid h1
  have k1 := h1.cell 2
  have z1 := h1.free 2
  simp only [rgRow] at k1
  clear h1 HT c0
  go_wp2_with fail
  go_ret
  exact ⟨rfl, H1.out.set 2 _ (by simp [rgRow])⟩
set_option maxHeartbeats 1000000 in
theorem readOp_short (h : Rg w n rs hd pk W) (h6 : rs.length < 2) :
    Calls Tryd.prog 15 #[.pointer (some ⟨n + 3, 0, none⟩)] W fun e w' => ∃ b, e = .returned (.iface 76 (.pointer (some ⟨b, 0, none⟩))) ∧ w'.heap[b]? = some (wrongObj octetsWord 2) ∧ ∃ rs2 hd2 pk2, Rg w n rs2 hd2 pk2 w' := by
  have c0 := h.from_
  have HT := Lib.hid (h.u16_short h6)
  clear h h6
  go_enter Tryd.func15, Tryd.ntmps15
  go_wp2_with fail
  refine HT.out.mono ?_
  rintro e w1 ⟨b, rfl, h1, ho, hb⟩
  have H1 := Lib.hid h1
  have HO := Lib.hid ho
  have k1 := h1.cell 2
  have z1 := h1.free 2
  simp only [rgRow] at k1
  clear h1 ho HT c0
  go_wp2_with fail
  go_ret
  exact ⟨b, rfl, block_set _ _ _ HO.out (by omega), _, _, _, H1.out.set (pk' := { pk with op := 0 }) 2 _ rfl⟩
theorem checkHead_ok (h : Rg w n rs hd pk W) (he : hd = arpHead) :
    Calls Tryd.prog 18 #[.pointer (some ⟨n + 3, 0, none⟩)] W fun e w' => e = .returned .nilIface ∧ W = w' := by
  have k1 := h.cell 1
  simp only [rgRow, he] at k1
  have k2 : W.cell? ⟨n + 3, 1, none⟩ = some (.string ⟨#[0, 1, 8, 0, 6, 4]⟩) := k1
  clear h he k1
  go_enter Tryd.func18, Tryd.ntmps18
  go_wp2_with fail
  go_ret
  exact ⟨rfl, rfl⟩
theorem checkHead_bad (h : Rg w n rs hd pk W) (he : hd ≠ arpHead) :
    Calls Tryd.prog 18 #[.pointer (some ⟨n + 3, 0, none⟩)] W fun e w' => e = .returned (.iface 44 (.int .i64 12)) ∧ W = w' := by
  have k1 := h.cell 1
  simp only [rgRow] at k1
  have k2 : W.cell? ⟨n + 3, 1, none⟩ = some (.string (txt hd)) := k1
  have h2 : (!(txt hd).toList == [0, 1, 8, 0, 6, 4]) = true := by
    rw [show (txt hd).toList = hd from ByteArray.toList_mk hd]
    simpa [arpHead] using he
  clear h he k1
  generalize txt hd = t at *
  go_enter Tryd.func18, Tryd.ntmps18
  go_wp2_with fail
  go_ret
  exact ⟨rfl, rfl⟩
theorem checkOp_ok (h : Rg w n rs hd pk W) (ho : pk.op = 1 ∨ pk.op = 2) :
    Calls Tryd.prog 19 #[.pointer (some ⟨n + 3, 0, none⟩)] W fun e w' => e = .returned .nilIface ∧ W = w' := by
  have k1 := h.cell 2
  simp only [rgRow] at k1
  rcases ho with ho | ho
  · rw [ho] at k1
    have k2 : W.cell? ⟨n + 3, 2, none⟩ = some (.int .u16 1) := k1
    clear h ho k1
    go_enter Tryd.func19, Tryd.ntmps19
    go_wp2_with fail
    go_ret
    exact ⟨rfl, rfl⟩
  · rw [ho] at k1
    have k2 : W.cell? ⟨n + 3, 2, none⟩ = some (.int .u16 2) := k1
    clear h ho k1
    go_enter Tryd.func19, Tryd.ntmps19
    go_wp2_with fail
    go_ret
    exact ⟨rfl, rfl⟩
theorem checkOp_bad (h : Rg w n rs hd pk W) (h1 : pk.op ≠ 1) (h2 : pk.op ≠ 2) :
    Calls Tryd.prog 19 #[.pointer (some ⟨n + 3, 0, none⟩)] W fun e w' => e = .returned (.iface 44 (.int .i64 3)) ∧ W = w' := by
  have k1 := h.cell 2
  simp only [rgRow] at k1
  have k2 : W.cell? ⟨n + 3, 2, none⟩ = some (.int .u16 (pk.op : Int)) := k1
  generalize pk.op = z at *
  have e1 : ((z : Int) != 1) = true := by simp; omega
  have e2 : ((z : Int) != 2) = true := by simp; omega
  clear h k1 h1 h2
  go_enter Tryd.func19, Tryd.ntmps19
  go_wp2_with fail
  go_ret
  exact ⟨rfl, rfl⟩
end

theorem be4_val (a b c d : UInt8) : (((a.toNat : Int) * 256 + b.toNat) * 256 + c.toNat) * 256 + d.toNat = ((((a.toNat * 256 + b.toNat) * 256 + c.toNat) * 256 + d.toNat : Nat) : Int) := by omega

section
variable {w W : World} {n : Nat} {rs hd : List UInt8} {pk : Pkt}
theorem Rg.copySender (h : Rg w n rs hd pk W) (m : M6) (b : Nat) (ho : W.heap[b]? = some (bytesObj m.bs)) : ∀ ty, (Builtin.copy_ #[22, 22] ty #[.slice (some ⟨n + 3, 3, none⟩) 6 6, .slice (some ⟨b, 0, none⟩) 6 6]).run Tryd.prog W =
    .ok (.int .i64 6) (W.setRow (n + 3) (rgRow n hd { pk with sha := m })) := by
  intro ty
  have hs : (Tryd.prog.info? 5).map (·.size) = some 1 := by
    obtain ⟨i0, hi, hz0, hz1, hz2⟩ := info_parts u8info
    simp [hi, hz1]
  have e := run_copy_row (P := Tryd.prog) W 22 22 ty 5 (n + 3) 3 6 6 ⟨b, 0, none⟩ 6 6 _ 50 (m.bs.map B8) Tryd.underlying22 hs h.box rfl
    (fun j v hv => by
      obtain ⟨u, hu, rfl⟩ := getElem_B8 hv
      rw [Addr.add_lit, Nat.zero_add]
      exact bytesCell ho j u hu) (by simp [M6.bs, rgRow]) (oneCell_B8 _)
  rw [e]
  rfl
set_option maxHeartbeats 1000000 in
theorem pairSender_ok {m : M6} {a b c d : UInt8} (h : Rg w n (m.bs ++ (a :: b :: c :: d :: rs)) hd pk W) :
    Calls Tryd.prog 31 #[.pointer (some ⟨n + 3, 0, none⟩), .pointer (some ⟨n + 3, 3, none⟩), .pointer (some ⟨n + 3, 9, none⟩)] W fun e w' => e = .returned .nilIface ∧ Rg w n rs hd { pk with sha := m, spa := ((a.toNat * 256 + b.toNat) * 256 + c.toNat) * 256 + d.toNat } w' := by
  have c0 := h.from_
  have HT := Lib.hid (h.bytes (by simp [M6.bs]))
  have HM : Hid ((m.bs ++ (a :: b :: c :: d :: rs)).take 6 = m.bs) := rfl
  have HD : Hid ((m.bs ++ (a :: b :: c :: d :: rs)).drop 6 = a :: b :: c :: d :: rs) := rfl
  clear h
  go_enter Tryd.func31, Tryd.ntmps31
  go_wp2_with fail
  refine HT.out.mono ?_
  rintro e w1 ⟨g, rfl, h1, ho, _⟩
  rw [HD.out] at h1
  rw [HM.out] at ho
  have hcp := h1.copySender m g ho
  have H2 := Lib.hid (h1.row hd { pk with sha := m })
  have hc2 := (h1.row hd { pk with sha := m }).from_
  clear h1 ho HT c0 HD HM
  generalize w1.setRow (n + 3) (rgRow n hd { pk with sha := m }) = w2 at *
  have HU := Lib.hid H2.out.u32
  go_wp2_with fail
  refine HU.out.mono ?_
  rintro e w3 ⟨rfl, h3⟩
  rw [be4_val]
  have H3 := Lib.hid h3
  have k1 := h3.cell 9
  have z1 := h3.free 9
  simp only [rgRow] at k1
  clear h3 HU hcp hc2 H2
  generalize hz : ((a.toNat * 256 + b.toNat) * 256 + c.toNat) * 256 + d.toNat = z at *
  have HZ := Lib.hid hz
  clear hz
  go_wp2_with fail
  go_ret
  obtain rfl := HZ.out
  exact ⟨rfl, H3.out.set 9 _ rfl⟩
set_option maxHeartbeats 1000000 in
theorem pairSender_shortA (h : Rg w n rs hd pk W) (h6 : rs.length < 6) :
    Calls Tryd.prog 31 #[.pointer (some ⟨n + 3, 0, none⟩), .pointer (some ⟨n + 3, 3, none⟩), .pointer (some ⟨n + 3, 9, none⟩)] W fun e w' => ∃ b, e = .returned (.iface 76 (.pointer (some ⟨b, 0, none⟩))) ∧ w'.heap[b]? = some (wrongObj octetsWord 2) ∧ ∃ rs2 hd2 pk2, Rg w n rs2 hd2 pk2 w' := by
  have c0 := h.from_
  have HT := Lib.hid (h.bytes_short h6)
  clear h h6
  go_enter Tryd.func31, Tryd.ntmps31
  go_wp2_with fail
  refine HT.out.mono ?_
  rintro e w1 ⟨b, rfl, h1, ho, hb⟩
  have H1 := Lib.hid h1
  have HO := Lib.hid ho
  clear h1 ho HT c0
  go_wp2_with fail
  go_ret
  exact ⟨b, rfl, HO.out, _, _, _, H1.out⟩
set_option maxHeartbeats 1000000 in
theorem pairSender_shortB {m : M6} (h : Rg w n (m.bs ++ rs) hd pk W) (h6 : rs.length < 4) :
    Calls Tryd.prog 31 #[.pointer (some ⟨n + 3, 0, none⟩), .pointer (some ⟨n + 3, 3, none⟩), .pointer (some ⟨n + 3, 9, none⟩)] W fun e w' => ∃ b, e = .returned (.iface 76 (.pointer (some ⟨b, 0, none⟩))) ∧ w'.heap[b]? = some (wrongObj octetsWord 2) ∧ ∃ rs2 hd2 pk2, Rg w n rs2 hd2 pk2 w' := by
  have c0 := h.from_
  have HT := Lib.hid (h.bytes (by simp [M6.bs]))
  have HM : Hid ((m.bs ++ rs).take 6 = m.bs) := rfl
  have HD : Hid ((m.bs ++ rs).drop 6 = rs) := rfl
  clear h
  go_enter Tryd.func31, Tryd.ntmps31
  go_wp2_with fail
  refine HT.out.mono ?_
  rintro e w1 ⟨g, rfl, h1, ho, _⟩
  rw [HD.out] at h1
  rw [HM.out] at ho
  have hcp := h1.copySender m g ho
  have H2 := Lib.hid (h1.row hd { pk with sha := m })
  have hc2 := (h1.row hd { pk with sha := m }).from_
  clear h1 ho HT c0 HD HM
  generalize w1.setRow (n + 3) (rgRow n hd { pk with sha := m }) = w2 at *
  have HU := Lib.hid (H2.out.u32_short h6)
  go_wp2_with fail
  refine HU.out.mono ?_
  rintro e w3 ⟨b, rfl, h3, ho, hb⟩
  have H3 := Lib.hid h3
  have HO := Lib.hid ho
  have k1 := h3.cell 9
  have z1 := h3.free 9
  simp only [rgRow] at k1
  clear h3 ho HU hcp hc2 H2
  go_wp2_with fail
  go_ret
  exact ⟨b, rfl, block_set _ _ _ HO.out (by omega), _, _, _, H3.out.set (pk' := { pk with sha := m, spa := 0 }) 9 _ rfl⟩
set_option maxHeartbeats 1000000 in
theorem readSender_ok {m : M6} {a b c d : UInt8} (h : Rg w n (m.bs ++ (a :: b :: c :: d :: rs)) hd pk W) :
    Calls Tryd.prog 16 #[.pointer (some ⟨n + 3, 0, none⟩)] W fun e w' => e = .returned .nilIface ∧ Rg w n rs hd { pk with sha := m, spa := ((a.toNat * 256 + b.toNat) * 256 + c.toNat) * 256 + d.toNat } w' := by
  have HT := Lib.hid (pairSender_ok h.drew)
  clear h
  go_enter Tryd.func16, Tryd.ntmps16
  go_wp2_with fail
  go_region_law (go_simp; go_at_call 31; (with_reducible refine HT.out.mono ?_); rintro e w1 ⟨rfl, h1⟩)
  all_goals
    have H1 := Lib.hid h1
    clear h1
    go_wp2_with fail
    go_ret
    exact ⟨rfl, H1.out⟩
set_option maxHeartbeats 1000000 in
theorem readSender_short (h : Rg w n rs hd pk W) (h10 : rs.length < 10) :
    Calls Tryd.prog 16 #[.pointer (some ⟨n + 3, 0, none⟩)] W fun e w' => ∃ b, e = .returned (.iface 76 (.pointer (some ⟨b, 0, none⟩))) ∧ w'.heap[b]? = some (wrongObj octetsWord 2) ∧ ∃ rs2 hd2 pk2, Rg w n rs2 hd2 pk2 w' := by
  have HT : Hid (Calls Tryd.prog 31 #[.pointer (some ⟨n + 3, 0, none⟩), .pointer (some ⟨n + 3, 3, none⟩), .pointer (some ⟨n + 3, 9, none⟩)] W.drew fun e w' => ∃ b, e = .returned (.iface 76 (.pointer (some ⟨b, 0, none⟩))) ∧ w'.heap[b]? = some (wrongObj octetsWord 2) ∧ ∃ rs2 hd2 pk2, Rg w n rs2 hd2 pk2 w') := by
    show Calls _ _ _ _ _
    by_cases h6 : rs.length < 6
    · exact pairSender_shortA h.drew h6
    · obtain ⟨m, r, rfl⟩ := six_of rs (by omega)
      exact pairSender_shortB h.drew (by simp [M6.bs] at h10; omega)
  clear h h10
  go_enter Tryd.func16, Tryd.ntmps16
  go_wp2_with fail
  go_region_law (go_simp; go_at_call 31; (with_reducible refine HT.out.mono ?_); rintro e w1 ⟨b, rfl, ho, h1⟩)
  all_goals
    have H1 := Lib.hid (And.intro ho h1)
    clear ho h1
    go_wp2_with fail
    go_ret
    exact ⟨b, rfl, H1.out.1, H1.out.2⟩
end

section
variable {w W : World} {n : Nat} {rs hd : List UInt8} {pk : Pkt}
theorem Rg.copyTarget (h : Rg w n rs hd pk W) (m : M6) (b : Nat) (ho : W.heap[b]? = some (bytesObj m.bs)) : ∀ ty, (Builtin.copy_ #[22, 22] ty #[.slice (some ⟨n + 3, 10, none⟩) 6 6, .slice (some ⟨b, 0, none⟩) 6 6]).run Tryd.prog W =
    .ok (.int .i64 6) (W.setRow (n + 3) (rgRow n hd { pk with tha := m })) := by
  intro ty
  have hs : (Tryd.prog.info? 5).map (·.size) = some 1 := by
    obtain ⟨i0, hi, hz0, hz1, hz2⟩ := info_parts u8info
    simp [hi, hz1]
  have e := run_copy_row (P := Tryd.prog) W 22 22 ty 5 (n + 3) 10 6 6 ⟨b, 0, none⟩ 6 6 _ 50 (m.bs.map B8) Tryd.underlying22 hs h.box rfl
    (fun j v hv => by
      obtain ⟨u, hu, rfl⟩ := getElem_B8 hv
      rw [Addr.add_lit, Nat.zero_add]
      exact bytesCell ho j u hu) (by simp [M6.bs, rgRow]) (oneCell_B8 _)
  rw [e]
  rfl
set_option maxHeartbeats 1000000 in
theorem pairTarget_ok {m : M6} {a b c d : UInt8} (h : Rg w n (m.bs ++ (a :: b :: c :: d :: rs)) hd pk W) :
    Calls Tryd.prog 31 #[.pointer (some ⟨n + 3, 0, none⟩), .pointer (some ⟨n + 3, 10, none⟩), .pointer (some ⟨n + 3, 16, none⟩)] W fun e w' => e = .returned .nilIface ∧ Rg w n rs hd { pk with tha := m, tpa := ((a.toNat * 256 + b.toNat) * 256 + c.toNat) * 256 + d.toNat } w' := by
  have c0 := h.from_
  have HT := Lib.hid (h.bytes (by simp [M6.bs]))
  have HM : Hid ((m.bs ++ (a :: b :: c :: d :: rs)).take 6 = m.bs) := rfl
  have HD : Hid ((m.bs ++ (a :: b :: c :: d :: rs)).drop 6 = a :: b :: c :: d :: rs) := rfl
  clear h
  go_enter Tryd.func31, Tryd.ntmps31
  go_wp2_with fail
  refine HT.out.mono ?_
  rintro e w1 ⟨g, rfl, h1, ho, _⟩
  rw [HD.out] at h1
  rw [HM.out] at ho
  have hcp := h1.copyTarget m g ho
  have H2 := Lib.hid (h1.row hd { pk with tha := m })
  have hc2 := (h1.row hd { pk with tha := m }).from_
  clear h1 ho HT c0 HD HM
  generalize w1.setRow (n + 3) (rgRow n hd { pk with tha := m }) = w2 at *
  have HU := Lib.hid H2.out.u32
  go_wp2_with fail
  refine HU.out.mono ?_
  rintro e w3 ⟨rfl, h3⟩
  rw [be4_val]
  have H3 := Lib.hid h3
  have k1 := h3.cell 16
  have z1 := h3.free 16
  simp only [rgRow] at k1
  clear h3 HU hcp hc2 H2
  generalize hz : ((a.toNat * 256 + b.toNat) * 256 + c.toNat) * 256 + d.toNat = z at *
  have HZ := Lib.hid hz
  clear hz
  go_wp2_with fail
  go_ret
  obtain rfl := HZ.out
  exact ⟨rfl, H3.out.set 16 _ rfl⟩
set_option maxHeartbeats 1000000 in
theorem pairTarget_shortA (h : Rg w n rs hd pk W) (h6 : rs.length < 6) :
    Calls Tryd.prog 31 #[.pointer (some ⟨n + 3, 0, none⟩), .pointer (some ⟨n + 3, 10, none⟩), .pointer (some ⟨n + 3, 16, none⟩)] W fun e w' => ∃ b, e = .returned (.iface 76 (.pointer (some ⟨b, 0, none⟩))) ∧ w'.heap[b]? = some (wrongObj octetsWord 2) ∧ ∃ rs2 hd2 pk2, Rg w n rs2 hd2 pk2 w' := by
  have c0 := h.from_
  have HT := Lib.hid (h.bytes_short h6)
  clear h h6
  go_enter Tryd.func31, Tryd.ntmps31
  go_wp2_with fail
  refine HT.out.mono ?_
  rintro e w1 ⟨b, rfl, h1, ho, hb⟩
  have H1 := Lib.hid h1
  have HO := Lib.hid ho
  clear h1 ho HT c0
  go_wp2_with fail
  go_ret
  exact ⟨b, rfl, HO.out, _, _, _, H1.out⟩
set_option maxHeartbeats 1000000 in
theorem pairTarget_shortB {m : M6} (h : Rg w n (m.bs ++ rs) hd pk W) (h6 : rs.length < 4) :
    Calls Tryd.prog 31 #[.pointer (some ⟨n + 3, 0, none⟩), .pointer (some ⟨n + 3, 10, none⟩), .pointer (some ⟨n + 3, 16, none⟩)] W fun e w' => ∃ b, e = .returned (.iface 76 (.pointer (some ⟨b, 0, none⟩))) ∧ w'.heap[b]? = some (wrongObj octetsWord 2) ∧ ∃ rs2 hd2 pk2, Rg w n rs2 hd2 pk2 w' := by
  have c0 := h.from_
  have HT := Lib.hid (h.bytes (by simp [M6.bs]))
  have HM : Hid ((m.bs ++ rs).take 6 = m.bs) := rfl
  have HD : Hid ((m.bs ++ rs).drop 6 = rs) := rfl
  clear h
  go_enter Tryd.func31, Tryd.ntmps31
  go_wp2_with fail
  refine HT.out.mono ?_
  rintro e w1 ⟨g, rfl, h1, ho, _⟩
  rw [HD.out] at h1
  rw [HM.out] at ho
  have hcp := h1.copyTarget m g ho
  have H2 := Lib.hid (h1.row hd { pk with tha := m })
  have hc2 := (h1.row hd { pk with tha := m }).from_
  clear h1 ho HT c0 HD HM
  generalize w1.setRow (n + 3) (rgRow n hd { pk with tha := m }) = w2 at *
  have HU := Lib.hid (H2.out.u32_short h6)
  go_wp2_with fail
  refine HU.out.mono ?_
  rintro e w3 ⟨b, rfl, h3, ho, hb⟩
  have H3 := Lib.hid h3
  have HO := Lib.hid ho
  have k1 := h3.cell 16
  have z1 := h3.free 16
  simp only [rgRow] at k1
  clear h3 ho HU hcp hc2 H2
  go_wp2_with fail
  go_ret
  exact ⟨b, rfl, block_set _ _ _ HO.out (by omega), _, _, _, H3.out.set (pk' := { pk with tha := m, tpa := 0 }) 16 _ rfl⟩
set_option maxHeartbeats 1000000 in
theorem readTarget_ok {m : M6} {a b c d : UInt8} (h : Rg w n (m.bs ++ (a :: b :: c :: d :: rs)) hd pk W) :
    Calls Tryd.prog 17 #[.pointer (some ⟨n + 3, 0, none⟩)] W fun e w' => e = .returned .nilIface ∧ Rg w n rs hd { pk with tha := m, tpa := ((a.toNat * 256 + b.toNat) * 256 + c.toNat) * 256 + d.toNat } w' := by
  have HT := Lib.hid (pairTarget_ok h.drew)
  clear h
  go_enter Tryd.func17, Tryd.ntmps17
  go_wp2_with fail
  go_region_law (go_simp; go_at_call 31; (with_reducible refine HT.out.mono ?_); rintro e w1 ⟨rfl, h1⟩)
  all_goals
    have H1 := Lib.hid h1
    clear h1
    go_wp2_with fail
    go_ret
    exact ⟨rfl, H1.out⟩
set_option maxHeartbeats 1000000 in
theorem readTarget_short (h : Rg w n rs hd pk W) (h10 : rs.length < 10) :
    Calls Tryd.prog 17 #[.pointer (some ⟨n + 3, 0, none⟩)] W fun e w' => ∃ b, e = .returned (.iface 76 (.pointer (some ⟨b, 0, none⟩))) ∧ w'.heap[b]? = some (wrongObj octetsWord 2) ∧ ∃ rs2 hd2 pk2, Rg w n rs2 hd2 pk2 w' := by
  have HT : Hid (Calls Tryd.prog 31 #[.pointer (some ⟨n + 3, 0, none⟩), .pointer (some ⟨n + 3, 10, none⟩), .pointer (some ⟨n + 3, 16, none⟩)] W.drew fun e w' => ∃ b, e = .returned (.iface 76 (.pointer (some ⟨b, 0, none⟩))) ∧ w'.heap[b]? = some (wrongObj octetsWord 2) ∧ ∃ rs2 hd2 pk2, Rg w n rs2 hd2 pk2 w') := by
    show Calls _ _ _ _ _
    by_cases h6 : rs.length < 6
    · exact pairTarget_shortA h.drew h6
    · obtain ⟨m, r, rfl⟩ := six_of rs (by omega)
      exact pairTarget_shortB h.drew (by simp [M6.bs] at h10; omega)
  clear h h10
  go_enter Tryd.func17, Tryd.ntmps17
  go_wp2_with fail
  go_region_law (go_simp; go_at_call 31; (with_reducible refine HT.out.mono ?_); rintro e w1 ⟨b, rfl, ho, h1⟩)
  all_goals
    have H1 := Lib.hid (And.intro ho h1)
    clear ho h1
    go_wp2_with fail
    go_ret
    exact ⟨b, rfl, H1.out.1, H1.out.2⟩
end
end Go.Proofs.YthinmonahnbkdaaDoor
