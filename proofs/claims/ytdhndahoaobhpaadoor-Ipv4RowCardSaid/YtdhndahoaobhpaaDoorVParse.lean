/-
  What is proved: ipv4's parse and Parse by contract: bytes that end too early, heads that are wrong, a packet.
  Conditions: the bytes are fewer than 2^40.
-/
import Derived.Test.YtdhndahoaobhpaaDoorVRead
namespace Go.Proofs.YtdhndahoaobhpaaDoor
open Go.RowKit

def noIp : Ip := ⟨0, 0, false, false, 0, 0, 0, 0, 0, []⟩
def noIpVal : Value := .agg #[.int .u8 0, .int .u16 0, .bool false, .bool false, .int .i64 0, .int .u8 0, .int .u8 0, .int .u32 0, .int .u32 0, .slice none 0 0]
def noIpObj : Obj := .cells #[.int .u8 0, .int .u16 0, .bool false, .bool false, .int .i64 0, .int .u8 0, .int .u8 0, .int .u32 0, .int .u32 0, .slice none 0 0] 29
theorem noIp_obj : noIp.obj (.slice none 0 0) = noIpObj := rfl
/-- The packet that a head and bytes tell of. -/
def Hd.ip (h : Hd) (b : List UInt8) : Ip := { h.pk with b := b }
theorem Fr.ipAt {q : Nat} {W W' : World} {G : Nat} {p : Ip} {bv : Value} (hf : Fr (· = ⟨q, 0, none⟩) W W') (h : IpAt W G p bv) (hq : G ≠ q) : IpAt W' G p bv :=
  (hf.block G h.lt (fun a ha => by subst ha; exact fun e => hq e.symm)).trans h
theorem Rs.bytes {w W : World} {q n : Nat} {r : List UInt8} (h : Rs w W q r) (hn : n ≤ r.length) :
    Calls Tryd.prog 28 #[.pointer (some ⟨q, 0, none⟩), .int .i64 n] W fun e w' => ∃ b, e = .returned (.tuple #[.slice (some ⟨b, 0, none⟩) n n, .nilIface]) ∧ W.heap.size ≤ b ∧ w'.heap[b]? = some (bytesObj (r.take n)) ∧ Rs w w' q (r.drop n) ∧ Fr (· = ⟨q, 0, none⟩) W w' := by
  refine (Bytes_ok _ _ _ _ h.rdr hn h.len).mono ?_
  rintro e w' ⟨rfl, ht⟩
  exact ⟨_, rfl, Nat.le_refl _, ht.part, h.step ht.rdr ht.fr (by have := h.len; simp; omega), ht.fr⟩
theorem Rs.bytesI {w W : World} {q : Nat} {r : List UInt8} (h : Rs w W q r) (n : Nat) (z : Int) (hz : z = (n : Int)) (hn : n ≤ r.length) :
    Calls Tryd.prog 28 #[.pointer (some ⟨q, 0, none⟩), .int .i64 z] W fun e w' => ∃ b, e = .returned (.tuple #[.slice (some ⟨b, 0, none⟩) n n, .nilIface]) ∧ W.heap.size ≤ b ∧ w'.heap[b]? = some (bytesObj (r.take n)) ∧ Rs w w' q (r.drop n) ∧ Fr (· = ⟨q, 0, none⟩) W w' := hz ▸ h.bytes hn
theorem Rs.bytes_short {w W : World} {q : Nat} {r : List UInt8} (h : Rs w W q r) (z : Int) (hn : (r.length : Int) < z) :
    Calls Tryd.prog 28 #[.pointer (some ⟨q, 0, none⟩), .int .i64 z] W fun e w' => ∃ b, e = .returned (.tuple #[.slice none 0 0, .iface 74 (.pointer (some ⟨b, 0, none⟩))]) ∧ Chain w' 2 [octetsWord] (.iface 74 (.pointer (some ⟨b, 0, none⟩))) ∧ Below W.heap.size W w' := by
  refine (Bytes_short _ _ _ _ h.rdr hn).mono ?_
  rintro e w' ⟨rfl, rfl⟩
  exact ⟨_, rfl, chain_one W octetsWord 2, below_al (Below.refl _ _) _⟩
/-- What parse tells of what is no packet. -/
def InErr (n : Int) (l : List ByteArray) (w : World) (e : Ending) (w' : World) : Prop := ∃ (T : TypeId) (u : Value), e = .returned (.tuple #[noIpVal, .iface T u]) ∧ Chain w' n l (.iface T u) ∧ Below w.heap.size w w'
/-- What parse tells of a packet. -/
def InOk (p : Ip) (w : World) (e : Ending) (w' : World) : Prop := ∃ b, e = .returned (.tuple #[p.val (.slice (some ⟨b, 0, none⟩) p.b.length p.b.length), .nilIface]) ∧ w.heap.size ≤ b ∧ w'.heap[b]? = some (bytesObj p.b) ∧ Below w.heap.size w w'
def noIpRow : Array Value := #[.int .u8 0, .int .u16 0, .bool false, .bool false, .int .i64 0, .int .u8 0, .int .u8 0, .int .u32 0, .int .u32 0, .slice none 0 0]
theorem noIpRow_one : noIpRow.all (·.oneCell') = true := by simp [noIpRow, Value.oneCell']
theorem noIpRow_plain : Plain noIpRow := ipRow_plain noIp none 0 0

set_option maxRecDepth 100000 in
set_option maxHeartbeats 2000000 in
theorem parse_short (bs : List UInt8) (v : Value) (w : World) (hr : Rd w v bs) (hs : bs.length < 20) :
    Calls Tryd.prog 15 #[v] w (InErr 2 [octetsWord] w) := by
  have HX := Lib.hid (IpAt.new w noIp (.slice none 0 0))
  have HB := Lib.hid (below_al (Below.refl w.heap.size w) noIpObj)
  have HR := Lib.hid (Read_facts v bs (w.alloc noIpObj) (hr.below (below_al (Below.refl _ _) _)) (by omega))
  rw [noIp_obj] at HX
  have HS : Hid ((bs.length : Int) < 20) := by show _ < _; omega
  have HS2 : Hid (bs.length ≤ 1099511627776) := by show _ ≤ _; omega
  clear hr hs
  generalize hW : w.alloc noIpObj = W at HX HB HR
  unfold noIpObj at hW
  go_enter Tryd.func15, Tryd.ntmps15
  go_upto_region 1 with fail
  clear hW
  go_wp2_with fail
  refine HR.out.mono ?_
  rintro e w1 ⟨q, rfl, h1, h2, h3⟩
  have R0 : Hid (Rs W w1 q bs) := ⟨h2, h3, h1, HS2.out⟩
  clear h1 h2 h3 HR
  go_wp2_with fail
  refine (R0.out.bytes_short 20 HS.out).mono ?_
  rintro e w2 ⟨b, rfl, hc, hb⟩
  have HZ := Lib.hid ((HX.out.below R0.out.old).below hb)
  have HQ := Lib.hid (below_to HB.out (below_to R0.out.old hb R0.out.old.size) HB.out.size)
  have HC := Lib.hid hc
  clear hb hc R0 HX HB
  go_wp2_with (refine wpList_store_row rfl 29 (.tmp 2) (.tmp 19) rfl w.heap.size noIpRow rfl rfl 29 _ HZ.out ipSize rfl noIpRow_one ?_)
  (try simp only [Exit.inBlock, Exit.then])
  refine bodyPost_ret (results_cell_tmp_row rfl _ _ w.heap.size _ noIpRow (0, 0) _ rfl (setRow_heap _ _ _ _ _ _ HZ.out) Tryd.underlying29 rfl ipSize) rfl ?_
  exact ⟨_, _, rfl, HC.out.row HZ.out noIpRow_plain, ((Fr.of_below (p := fun _ => False) HQ.out).row (Nat.le_refl _) _).below (Nat.le_refl _) (fun _ h => h.elim)⟩

set_option maxRecDepth 100000 in
set_option maxHeartbeats 4000000 in
theorem parse_wrong (h : Hd) (hh : h.In) (r : List UInt8) (v : Value) (w : World) (hr : Rd w v (h.bs ++ r)) (hL : (h.bs ++ r).length ≤ 1099511627776) (hw : h.wrong (h.bs ++ r).length ≠ 0) :
    Calls Tryd.prog 15 #[v] w (InErr (h.wrong (h.bs ++ r).length) [] w) := by
  have HX := Lib.hid (IpAt.new w noIp (.slice none 0 0))
  have HB := Lib.hid (below_al (Below.refl w.heap.size w) noIpObj)
  have HR := Lib.hid (Read_facts v (h.bs ++ r) (w.alloc noIpObj) (hr.below (below_al (Below.refl _ _) _)) hL)
  rw [noIp_obj] at HX
  have HI := Lib.hid hh
  have HRH : Hid (∀ (b : Nat) (W : World), W.heap[b]? = some (bytesObj h.bs) → _) := fun b W hb => readHeader_any h hh (.slice (some ⟨b, 0, none⟩) 20 20) W (hd_rd hb)
  have HCK : Hid (∀ W : World, _) := fun W => check_any h hh (h.bs ++ r).length hL W
  have HLL := Lib.hid hL
  have HT : Hid ((h.bs ++ r).take 20 = h.bs) := by show _ = _; rw [List.take_append_of_le_length (by rw [Hd.bs_len]; exact Nat.le_refl _)]; exact List.take_of_length_le (by rw [Hd.bs_len]; exact Nat.le_refl _)
  have HD : Hid ((h.bs ++ r).drop 20 = r) := by show _ = _; exact List.drop_left' h.bs_len
  have HN : Hid (20 ≤ (h.bs ++ r).length) := by show _ ≤ _; rw [List.length_append, Hd.bs_len]; omega
  have hsz := hh.size
  have hbt := hh.bits
  obtain ⟨A, cap, rfl, _, _⟩ := hr
  clear hh hL
  unfold Hd.row at HRH HCK
  generalize hk : h.wrong (h.bs ++ r).length = k at HCK hw ⊢
  clear hk
  generalize hx : h.first / 16 = x at HRH HCK
  generalize hy : h.first % 16 = y at HRH HCK
  generalize hdf : decide (h.bits / 16384 % 2 = 1) = df at HRH HCK 
  generalize hmf : decide (h.bits / 8192 % 2 = 1) = mf at HRH HCK 
  generalize hof : h.bits % 8192 * 8 = off at HRH HCK 
  generalize hn : (h.bs ++ r).length = n at *
  have HNN := Lib.hid hn
  clear hx hy hn
  clear hdf hmf hof
  generalize hW : w.alloc noIpObj = W at HX HB HR
  unfold noIpObj at hW
  go_enter Tryd.func15, Tryd.ntmps15
  go_upto_region 1 with fail
  clear hW
  go_wp2_with fail
  refine HR.out.mono ?_
  rintro e w1 ⟨q, rfl, h1, h2, h3⟩
  have R0 : Hid (Rs W w1 q (h.bs ++ r)) := ⟨h2, h3, h1, by rw [HNN.out]; exact HLL.out⟩
  clear h1 h2 h3 HR
  go_wp2_with fail
  refine (R0.out.bytesI 20 20 rfl (by rw [HNN.out]; exact HN.out)).mono ?_
  rintro e w2 ⟨b1, rfl, h1, h2, h3, h4⟩
  rw [HT.out] at h2
  rw [HD.out] at h3
  have HG : Hid (w.heap.size < W.heap.size) := HX.out.lt
  have HZ := Lib.hid (h4.ipAt (HX.out.below R0.out.old) (by have a := R0.out.new; have b := HG.out; omega))
  have R2 := Lib.hid h3
  have HB1 := Lib.hid h2
  have HQ1 : Hid (q ≠ b1) := by have a := R0.out.rdr.at_; show _ ≠ _; simp at a; omega
  clear h1 h2 h3 h4 R0 HX HT HD HN
  go_wp2_with fail
  refine (HRH.out b1 w2 HB1.out).mono ?_
  rintro e w3 ⟨rfl, hb⟩
  have HZ3 := Lib.hid (HZ.out.below hb)
  have R3 := Lib.hid (show Rs W w3 q r from ⟨R2.out.rdr.below hb, below_to R2.out.old hb R2.out.old.size, R2.out.new, R2.out.len⟩)
  have HB3 := Lib.hid ((hb.block b1 (Array.getElem?_eq_some_iff.1 HB1.out).1).trans HB1.out)
  clear hb HZ R2 HB1 HRH
  go_upto_region 6 with fail
  have HX4 := Lib.hid (heap_alloc_new w3 (.cells #[.int .u8 x, .int .u8 y, .int .i64 h.size, .int .u16 h.bits, .int .u8 h.tos, .int .u16 h.id, .bool df, .bool mf, .int .i64 off, .int .u8 h.ttl, .int .u8 h.proto, .int .u32 h.src, .int .u32 h.dst, .slice none 0 0] 70))
  have HK4 := Lib.hid (below_al (Below.refl w3.heap.size w3) (.cells #[.int .u8 x, .int .u8 y, .int .i64 h.size, .int .u16 h.bits, .int .u8 h.tos, .int .u16 h.id, .bool df, .bool mf, .int .i64 off, .int .u8 h.ttl, .int .u8 h.proto, .int .u32 h.src, .int .u32 h.dst, .slice none 0 0] 70))
  go_wp2_with fail
  refine (HCK.out _).mono ?_
  rintro e w4 ⟨hb, he⟩
  have hb4 := below_to HK4.out hb HK4.out.size
  have HZ4 := Lib.hid (HZ3.out.below hb4)
  have R4 := Lib.hid (show Rs W w4 q r from ⟨R3.out.rdr.below hb4, below_to R3.out.old hb4 R3.out.old.size, R3.out.new, R3.out.len⟩)
  have HB4 := Lib.hid ((hb4.block b1 (Array.getElem?_eq_some_iff.1 HB3.out).1).trans HB3.out)
  have H14 := Lib.hid ((hb.block w3.heap.size (by simp)).trans HX4.out)
  have HG7 : Hid (W.heap.size ≤ w3.heap.size ∧ q < w3.heap.size) := ⟨R3.out.old.size, R3.out.rdr.at_⟩
  clear hb hb4 HZ3 R3 HB3 HX4 HK4 HCK
  generalize w3.heap.size = g7 at *
  rw [if_neg hw] at he
  subst he
  have HZ := Lib.hid HZ4.out
  have HQ := Lib.hid (below_to HB.out R4.out.old HB.out.size)
  clear HZ4 R4 HB4 H14 HG7 HB
  go_wp2_with (refine wpList_store_row rfl 29 (.tmp 2) (.tmp 29) rfl w.heap.size noIpRow rfl rfl 29 _ HZ.out ipSize rfl noIpRow_one ?_)
  (try simp only [Exit.inBlock, Exit.then])
  refine bodyPost_ret (results_cell_tmp_row rfl _ _ w.heap.size _ noIpRow (0, 0) _ rfl (setRow_heap _ _ _ _ _ _ HZ.out) Tryd.underlying29 rfl ipSize) rfl ?_
  exact ⟨_, _, rfl, rfl, ((Fr.of_below (p := fun _ => False) HQ.out).row (Nat.le_refl _) _).below (Nat.le_refl _) (fun _ h => h.elim)⟩

set_option maxRecDepth 100000 in
set_option maxHeartbeats 4000000 in
theorem parse_sum (h : Hd) (hh : h.In) (r : List UInt8) (v : Value) (w : World) (hr : Rd w v (h.bs ++ r)) (hL : (h.bs ++ r).length ≤ 1099511627776) (hw : h.wrong (h.bs ++ r).length = 0) (hc : ck h.bs ≠ 0) :
    Calls Tryd.prog 15 #[v] w (InErr 4 [] w) := by
  have HX := Lib.hid (IpAt.new w noIp (.slice none 0 0))
  have HB := Lib.hid (below_al (Below.refl w.heap.size w) noIpObj)
  have HR := Lib.hid (Read_facts v (h.bs ++ r) (w.alloc noIpObj) (hr.below (below_al (Below.refl _ _) _)) hL)
  rw [noIp_obj] at HX
  have HI := Lib.hid hh
  have HRH : Hid (∀ (b : Nat) (W : World), W.heap[b]? = some (bytesObj h.bs) → _) := fun b W hb => readHeader_any h hh (.slice (some ⟨b, 0, none⟩) 20 20) W (hd_rd hb)
  have HCK : Hid (∀ W : World, _) := fun W => check_any h hh (h.bs ++ r).length hL W
  have HLL := Lib.hid hL
  have HT : Hid ((h.bs ++ r).take 20 = h.bs) := by show _ = _; rw [List.take_append_of_le_length (by rw [Hd.bs_len]; exact Nat.le_refl _)]; exact List.take_of_length_le (by rw [Hd.bs_len]; exact Nat.le_refl _)
  have HD : Hid ((h.bs ++ r).drop 20 = r) := by show _ = _; exact List.drop_left' h.bs_len
  have HN : Hid (20 ≤ (h.bs ++ r).length) := by show _ ≤ _; rw [List.length_append, Hd.bs_len]; omega
  have hsz := hh.size
  have hbt := hh.bits
  obtain ⟨A, cap, rfl, _, _⟩ := hr
  clear hh hL
  unfold Hd.row at HRH HCK
  rw [hw] at HCK
  have hcd : decide (ck h.bs = 0) = false := by simpa using hc
  clear hw hc
  generalize hx : h.first / 16 = x at HRH HCK
  generalize hy : h.first % 16 = y at HRH HCK
  generalize hdf : decide (h.bits / 16384 % 2 = 1) = df at HRH HCK 
  generalize hmf : decide (h.bits / 8192 % 2 = 1) = mf at HRH HCK 
  generalize hof : h.bits % 8192 * 8 = off at HRH HCK 
  generalize hn : (h.bs ++ r).length = n at *
  have HNN := Lib.hid hn
  clear hx hy hn
  clear hdf hmf hof
  generalize hW : w.alloc noIpObj = W at HX HB HR
  unfold noIpObj at hW
  go_enter Tryd.func15, Tryd.ntmps15
  go_upto_region 1 with fail
  clear hW
  go_wp2_with fail
  refine HR.out.mono ?_
  rintro e w1 ⟨q, rfl, h1, h2, h3⟩
  have R0 : Hid (Rs W w1 q (h.bs ++ r)) := ⟨h2, h3, h1, by rw [HNN.out]; exact HLL.out⟩
  clear h1 h2 h3 HR
  go_wp2_with fail
  refine (R0.out.bytesI 20 20 rfl (by rw [HNN.out]; exact HN.out)).mono ?_
  rintro e w2 ⟨b1, rfl, h1, h2, h3, h4⟩
  rw [HT.out] at h2
  rw [HD.out] at h3
  have HG : Hid (w.heap.size < W.heap.size) := HX.out.lt
  have HZ := Lib.hid (h4.ipAt (HX.out.below R0.out.old) (by have a := R0.out.new; have b := HG.out; omega))
  have R2 := Lib.hid h3
  have HB1 := Lib.hid h2
  have HQ1 : Hid (q ≠ b1) := by have a := R0.out.rdr.at_; show _ ≠ _; simp at a; omega
  clear h1 h2 h3 h4 R0 HX HT HD HN
  go_wp2_with fail
  refine (HRH.out b1 w2 HB1.out).mono ?_
  rintro e w3 ⟨rfl, hb⟩
  have HZ3 := Lib.hid (HZ.out.below hb)
  have R3 := Lib.hid (show Rs W w3 q r from ⟨R2.out.rdr.below hb, below_to R2.out.old hb R2.out.old.size, R2.out.new, R2.out.len⟩)
  have HB3 := Lib.hid ((hb.block b1 (Array.getElem?_eq_some_iff.1 HB1.out).1).trans HB1.out)
  clear hb HZ R2 HB1 HRH
  go_upto_region 6 with fail
  have HX4 := Lib.hid (heap_alloc_new w3 (.cells #[.int .u8 x, .int .u8 y, .int .i64 h.size, .int .u16 h.bits, .int .u8 h.tos, .int .u16 h.id, .bool df, .bool mf, .int .i64 off, .int .u8 h.ttl, .int .u8 h.proto, .int .u32 h.src, .int .u32 h.dst, .slice none 0 0] 70))
  have HK4 := Lib.hid (below_al (Below.refl w3.heap.size w3) (.cells #[.int .u8 x, .int .u8 y, .int .i64 h.size, .int .u16 h.bits, .int .u8 h.tos, .int .u16 h.id, .bool df, .bool mf, .int .i64 off, .int .u8 h.ttl, .int .u8 h.proto, .int .u32 h.src, .int .u32 h.dst, .slice none 0 0] 70))
  go_wp2_with fail
  refine (HCK.out _).mono ?_
  rintro e w4 ⟨hb, he⟩
  have hb4 := below_to HK4.out hb HK4.out.size
  have HZ4 := Lib.hid (HZ3.out.below hb4)
  have R4 := Lib.hid (show Rs W w4 q r from ⟨R3.out.rdr.below hb4, below_to R3.out.old hb4 R3.out.old.size, R3.out.new, R3.out.len⟩)
  have HB4 := Lib.hid ((hb4.block b1 (Array.getElem?_eq_some_iff.1 HB3.out).1).trans HB3.out)
  have H14 := Lib.hid ((hb.block w3.heap.size (by simp)).trans HX4.out)
  have HG7 : Hid (W.heap.size ≤ w3.heap.size ∧ q < w3.heap.size) := ⟨R3.out.old.size, R3.out.rdr.at_⟩
  clear hb hb4 HZ3 R3 HB3 HX4 HK4 HCK
  generalize w3.heap.size = g7 at *
  rw [if_pos rfl] at he
  subst he
  go_wp2_with fail
  refine (Valid_one rfl (hd_rd HB4.out) (by rw [Hd.bs_len]; decide)).mono ?_
  rintro e w5 ⟨rfl, rfl⟩
  rw [hcd]
  have hb5 := below_al (Below.refl w4.heap.size w4) (.cells #[.slice (some ⟨b1, 0, none⟩) 20 20] 24)
  have HZ := Lib.hid (HZ4.out.below hb5)
  have HQ := Lib.hid (below_to HB.out (below_to R4.out.old hb5 R4.out.old.size) HB.out.size)
  clear HZ4 R4 HB4 H14 HG7 HB hb5 hcd
  go_wp2_with (refine wpList_store_row rfl 29 (.tmp 2) (.tmp 35) rfl w.heap.size noIpRow rfl rfl 29 _ HZ.out ipSize rfl noIpRow_one ?_)
  (try simp only [Exit.inBlock, Exit.then])
  refine bodyPost_ret (results_cell_tmp_row rfl _ _ w.heap.size _ noIpRow (0, 0) _ rfl (setRow_heap _ _ _ _ _ _ HZ.out) Tryd.underlying29 rfl ipSize) rfl ?_
  exact ⟨_, _, rfl, rfl, ((Fr.of_below (p := fun _ => False) HQ.out).row (Nat.le_refl _) _).below (Nat.le_refl _) (fun _ h => h.elim)⟩
end Go.Proofs.YtdhndahoaobhpaaDoor
