/-
  What is proved: arp.Parse by contract: bytes that end too early, another beginning, another Op, a packet.
  Conditions: the bytes are fewer than 2^40.
-/
import Derived.Test.YthinmonahnbkdaaDoorAUntil
namespace Go.Proofs.YthinmonahnbkdaaDoor
open Go.RowKit

def arpWord : ByteArray := ⟨#[97, 114, 112]⟩
def noPktVal : Value := .agg #[.int .u16 0, .int .u8 0, .int .u8 0, .int .u8 0, .int .u8 0, .int .u8 0, .int .u8 0, .int .u32 0, .int .u8 0, .int .u8 0, .int .u8 0, .int .u8 0, .int .u8 0, .int .u8 0, .int .u32 0]
theorem noPkt_val : noPkt.val = noPktVal := rfl
theorem be4_of (a b c d : UInt8) : be4 (n32 a b c d) = [a, b, c, d] := by
  have ha := a.toNat_lt
  have hb := b.toNat_lt
  have hc := c.toNat_lt
  have hd := d.toNat_lt
  have e : ∀ (x : UInt8) (n : Nat), n % 256 = x.toNat → UInt8.ofNat n = x := fun x n h => by
    apply UInt8.toNat_inj.1
    rw [ofNat_lt, h]
  unfold be4 n32
  rw [e a _ (by omega), e b _ (by omega), e c _ (by omega), e d _ (by omega)]
theorem n32_lt (a b c d : UInt8) : n32 a b c d < 4294967296 := by
  have ha := a.toNat_lt
  have hb := b.toNat_lt
  have hc := c.toNat_lt
  have hd := d.toNat_lt
  unfold n32
  omega
theorem n32_be4 (n : Nat) (h : n < 4294967296) : n32 (UInt8.ofNat (n / 16777216)) (UInt8.ofNat (n / 65536)) (UInt8.ofNat (n / 256)) (UInt8.ofNat n) = n := by
  unfold n32
  simp only [ofNat_lt]
  omega
/-- 28 bytes and more, taken apart. -/
theorem pkt_split (l : List UInt8) (h : 28 ≤ l.length) : ∃ (hd : List UInt8) (p : Pkt) (r : List UInt8), hd.length = 6 ∧ p.In ∧ l = hd ++ (be2 p.op ++ (p.sha.bs ++ (be4 p.spa ++ (p.tha.bs ++ (be4 p.tpa ++ r))))) := by
  obtain ⟨m0, l0, rfl⟩ := six_of l (by omega)
  have h0 : 22 ≤ l0.length := by simp [M6.bs] at h; omega
  match l0, h0 with
  | a :: b :: l1, h0 =>
    obtain ⟨m1, l2, rfl⟩ := six_of l1 (by simp at h0; omega)
    have h2 : 14 ≤ l2.length := by simp [M6.bs] at h0; omega
    match l2, h2 with
    | x0 :: x1 :: x2 :: x3 :: l3, h2 =>
      obtain ⟨m2, l4, rfl⟩ := six_of l3 (by simp at h2; omega)
      have h4 : 4 ≤ l4.length := by simp [M6.bs] at h2; omega
      match l4, h4 with
      | y0 :: y1 :: y2 :: y3 :: r, _ =>
        refine ⟨m0.bs, ⟨a.toNat * 256 + b.toNat, m1, n32 x0 x1 x2 x3, m2, n32 y0 y1 y2 y3⟩, r, rfl, ⟨?_, n32_lt _ _ _ _, n32_lt _ _ _ _⟩, ?_⟩
        · have ha := a.toNat_lt
          have hb := b.toNat_lt
          simp only
          omega
        · simp only [be2_of, be4_of]
          rfl

/-- An error of arp's own. -/
def PErr (n : Int) (l : List ByteArray) (w : World) (e : Ending) (w' : World) : Prop := ∃ b, e = .returned (.tuple #[noPktVal, .iface 76 (.pointer (some ⟨b, 0, none⟩))]) ∧ Chain w' n l (.iface 76 (.pointer (some ⟨b, 0, none⟩))) ∧ Below w.heap.size w w'

def w5 (w : World) (bs : List UInt8) : World := ((((w.alloc noPkt.obj).alloc (bytesObj bs)).alloc (.cells #[.slice (some ⟨w.heap.size + 1, 0, none⟩) bs.length bs.length] 67)).alloc (.cells (rgRow w.heap.size [] noPkt) 50)).alloc (.cells (rgFns w.heap.size) 52)
theorem Rg.start (w : World) (bs : List UInt8) (hL : bs.length ≤ 1099511627776) : Rg w w.heap.size bs [] noPkt (w5 w bs) := by
  have h := RdrG.of_Read (w.alloc noPkt.obj) bs
  simp only [World.size_alloc] at h
  refine ⟨(h.below (below_al (below_al (Below.refl _ _) (.cells (rgRow w.heap.size [] noPkt) 50)) (.cells (rgFns w.heap.size) 52))), ?_, ?_, ?_, ?_, hL⟩
  · unfold w5
    rw [heap_alloc_old _ _ (by simp)]
    have h := heap_alloc_new (((w.alloc noPkt.obj).alloc (bytesObj bs)).alloc (.cells #[.slice (some ⟨w.heap.size + 1, 0, none⟩) bs.length bs.length] 67)) (.cells (rgRow w.heap.size [] noPkt) 50)
    simpa using h
  · unfold w5
    have h := heap_alloc_new ((((w.alloc noPkt.obj).alloc (bytesObj bs)).alloc (.cells #[.slice (some ⟨w.heap.size + 1, 0, none⟩) bs.length bs.length] 67)).alloc (.cells (rgRow w.heap.size [] noPkt) 50)) (.cells (rgFns w.heap.size) 52)
    simpa using h
  · unfold w5 PktAt
    rw [heap_alloc_old _ _ (by simp; omega), heap_alloc_old _ _ (by simp; omega), heap_alloc_old _ _ (by simp; omega), heap_alloc_old _ _ (by simp)]
    exact heap_alloc_new w noPkt.obj
  · exact below_al (below_al (below_al (below_al (below_al (Below.refl _ _) _) _) _) _) _

/-- What untilWrong may tell of what is no packet. -/
def UntilErr (w : World) (m : Int) (l : List ByteArray) (e : Ending) (w' : World) : Prop := ∃ (T : TypeId) (u : Value) (rs hd : List UInt8) (pk : Pkt), e = .returned (.iface T u) ∧ Chain w' m l (.iface T u) ∧ Rg w w.heap.size rs hd pk w'

set_option maxRecDepth 100000 in
set_option maxHeartbeats 2000000 in
theorem aParse_err (m : Int) (l : List ByteArray) (v : Value) (bs : List UInt8) (w : World) (hr : Rd w v bs) (hL : bs.length ≤ 1099511627776)
    (hu : Calls Tryd.prog 13 #[.slice (some ⟨w.heap.size + 4, 0, none⟩) 6 6] (w5 w bs) (UntilErr w m l)) :
    Calls Tryd.prog 5 #[v] w (PErr m (arpWord :: l) w) := by
  have HRd := Lib.hid (Read_any v bs (w.alloc noPkt.obj) (hr.below (below_al (Below.refl _ _) _)) hL)
  have HU := Lib.hid hu
  obtain ⟨A, c, rfl, _, _⟩ := hr
  clear hu
  have hmf : ∀ (fn : Fn) (first cap : Array Value) (w : World), (Instr.makeFunc fn first cap).run Tryd.prog w = .ok (.func fn first cap) w := fun _ _ _ _ => rfl
  unfold noPkt Pkt.obj M6.zero at HRd
  simp only [World.size_alloc] at HRd
  go_enter Tryd.func5, Tryd.ntmps5
  go_wp2_with fail
  refine HRd.out.mono ?_
  rintro e w' ⟨rfl, rfl⟩
  go_wp2_with fail
  refine HU.out.mono ?_
  rintro e w2 ⟨T, u, rs, hd, pk, rfl, hc, hrg⟩
  clear HU HRd hmf
  have HC := Lib.hid hc
  have HG := Lib.hid hrg
  clear hc hrg
  go_wp2_with fail
  refine (wrap_any _ _ _ _).mono ?_
  rintro e w3 ⟨rfl, rfl⟩
  have hc := chain_wrapped arpWord HC.out
  have hb := below_al (Below.refl w2.heap.size w2) (.cells #[.string arpWord, .iface T u] 78)
  have HG2 := Lib.hid (HG.out.below hb)
  have HC2 := Lib.hid hc
  have HZ : Hid (PktAt (w2.alloc (.cells #[.string arpWord, .iface T u] 78)) w.heap.size noPkt) := HG2.out.res
  clear hb hc HC HG
  go_wp2_with (refine wpList_store_row rfl 29 (.tmp 2) (.tmp 26) rfl w.heap.size noPkt.row rfl rfl 29 _ HZ.out pktSize rfl (pktRow_one _) ?_)
  (try simp only [Exit.inBlock, Exit.then])
  refine bodyPost_ret (results_cell_tmp_row rfl _ _ w.heap.size _ noPkt.row (0, 0) _ rfl (setRow_heap _ _ _ _ _ _ HZ.out) Tryd.underlying29 rfl pktSize) rfl ?_
  exact ⟨_, rfl, HC2.out.row HZ.out (pktRow_plain noPkt), ((Fr.of_below (p := fun _ => False) HG2.out.old).row (Nat.le_refl _) _).below (Nat.le_refl _) (fun _ h => h.elim)⟩

set_option maxRecDepth 100000 in
set_option maxHeartbeats 2000000 in
theorem aParse_good (p : Pkt) (v : Value) (bs : List UInt8) (w : World) (hr : Rd w v bs) (hL : bs.length ≤ 1099511627776)
    (hu : Calls Tryd.prog 13 #[.slice (some ⟨w.heap.size + 4, 0, none⟩) 6 6] (w5 w bs) (fun e w' => e = .returned .nilIface ∧ ∃ rs hd, Rg w w.heap.size rs hd p w')) :
    Calls Tryd.prog 5 #[v] w fun e w' => e = .returned (.tuple #[p.val, .nilIface]) ∧ Below w.heap.size w w' := by
  have HRd := Lib.hid (Read_any v bs (w.alloc noPkt.obj) (hr.below (below_al (Below.refl _ _) _)) hL)
  have HU := Lib.hid hu
  obtain ⟨A, c, rfl, _, _⟩ := hr
  clear hu
  have hmf : ∀ (fn : Fn) (first cap : Array Value) (w : World), (Instr.makeFunc fn first cap).run Tryd.prog w = .ok (.func fn first cap) w := fun _ _ _ _ => rfl
  unfold noPkt Pkt.obj M6.zero at HRd
  simp only [World.size_alloc] at HRd
  go_enter Tryd.func5, Tryd.ntmps5
  go_wp2_with fail
  refine HRd.out.mono ?_
  rintro e w' ⟨rfl, rfl⟩
  go_wp2_with fail
  refine HU.out.mono ?_
  rintro e w2 ⟨rfl, rs, hd, hrg⟩
  clear HU HRd hmf
  have c2 := hrg.cell 2
  have c3 := hrg.cell 3
  have c4 := hrg.cell 4
  have c5 := hrg.cell 5
  have c6 := hrg.cell 6
  have c7 := hrg.cell 7
  have c8 := hrg.cell 8
  have c9 := hrg.cell 9
  have c10 := hrg.cell 10
  have c11 := hrg.cell 11
  have c12 := hrg.cell 12
  have c13 := hrg.cell 13
  have c14 := hrg.cell 14
  have c15 := hrg.cell 15
  have c16 := hrg.cell 16
  have HZ : Hid (PktAt w2 w.heap.size noPkt) := hrg.res
  have HG := Lib.hid hrg
  clear hrg
  simp only [rgRow, List.getElem?_toArray, List.getElem?_cons_succ, List.getElem?_cons_zero] at c2 c3 c4 c5 c6 c7 c8 c9 c10 c11 c12 c13 c14 c15 c16
  go_wp2_with (refine wpList_store_row rfl 29 (.tmp 2) (.tmp 32) rfl w.heap.size p.row rfl rfl 29 _ HZ.out pktSize rfl (pktRow_one _) ?_)
  (try simp only [Exit.inBlock, Exit.then])
  refine bodyPost_ret (results_cell_tmp_row rfl _ _ w.heap.size _ p.row (0, 0) _ rfl (setRow_heap _ _ _ _ _ _ HZ.out) Tryd.underlying29 rfl pktSize) rfl ?_
  exact ⟨rfl, ((Fr.of_below (p := fun _ => False) HG.out.old).row (Nat.le_refl _) _).below (Nat.le_refl _) (fun _ h => h.elim)⟩

theorem aParse_short (v : Value) (bs : List UInt8) (w : World) (hr : Rd w v bs) (hs : bs.length < 28) :
    Calls Tryd.prog 5 #[v] w (PErr 2 [arpWord, octetsWord] w) :=
  aParse_err 2 [octetsWord] v bs w hr (by omega) ((until_short (Rg.start w bs (by omega)) hs).mono fun e w' ⟨b, he, ho, rs, hd, pk, h⟩ => ⟨_, _, rs, hd, pk, he, chain_obj ho, h⟩)
theorem until_at (w : World) (hd : List UInt8) (p : Pkt) (r : List UInt8) (hl : hd.length = 6) (hp : p.In) (hL : (hd ++ (be2 p.op ++ (p.sha.bs ++ (be4 p.spa ++ (p.tha.bs ++ (be4 p.tpa ++ r)))))).length ≤ 1099511627776) :
    Calls Tryd.prog 13 #[.slice (some ⟨w.heap.size + 4, 0, none⟩) 6 6] (w5 w (hd ++ (be2 p.op ++ (p.sha.bs ++ (be4 p.spa ++ (p.tha.bs ++ (be4 p.tpa ++ r))))))) fun e w' => UntilTold hd p.op e ∧ Rg w w.heap.size r hd p w' := by
  have h := until_long hl (Rg.start w (hd ++ (be2 p.op ++ (p.sha.bs ++ (be4 p.spa ++ (p.tha.bs ++ (be4 p.tpa ++ r)))))) hL)
  refine h.mono ?_
  obtain ⟨op, sha, spa, tha, tpa⟩ := p
  have h1 : op < 65536 := hp.op
  have h2 : (UInt8.ofNat (op / 256)).toNat * 256 + (UInt8.ofNat op).toNat = op := by
    have := be2_val op h1
    omega
  intro e w' ⟨he, hg⟩
  rw [h2] at he hg
  rw [n32_be4 _ hp.spa, n32_be4 _ hp.tpa] at hg
  exact ⟨he, hg⟩
theorem aParse_proto (v : Value) (hd : List UInt8) (p : Pkt) (r : List UInt8) (w : World) (hl : hd.length = 6) (hp : p.In) (hne : hd ≠ arpHead) (hL : (hd ++ (be2 p.op ++ (p.sha.bs ++ (be4 p.spa ++ (p.tha.bs ++ (be4 p.tpa ++ r)))))).length ≤ 1099511627776)
    (hr : Rd w v (hd ++ (be2 p.op ++ (p.sha.bs ++ (be4 p.spa ++ (p.tha.bs ++ (be4 p.tpa ++ r))))))) :
    Calls Tryd.prog 5 #[v] w (PErr 12 [arpWord] w) :=
  aParse_err 12 [] v _ w hr hL ((until_at w hd p r hl hp hL).mono fun e w' ⟨he, h⟩ => by
    rcases he with ⟨he, _⟩ | ⟨he, _⟩ | ⟨_, he⟩
    · exact absurd he hne
    · exact absurd he hne
    · exact ⟨_, _, r, hd, p, he, chain_errno w' 12, h⟩)
theorem aParse_form (v : Value) (p : Pkt) (r : List UInt8) (w : World) (hp : p.In) (h1 : p.op ≠ 1) (h2 : p.op ≠ 2) (hL : (p.bs ++ r).length ≤ 1099511627776) (hr : Rd w v (p.bs ++ r)) :
    Calls Tryd.prog 5 #[v] w (PErr 3 [arpWord] w) := by
  have e : p.bs ++ r = arpHead ++ (be2 p.op ++ (p.sha.bs ++ (be4 p.spa ++ (p.tha.bs ++ (be4 p.tpa ++ r))))) := by simp only [Pkt.bs, List.append_assoc]
  rw [e] at hr hL
  refine aParse_err 3 [] v _ w hr hL ((until_at w arpHead p r rfl hp hL).mono fun e w' ⟨he, h⟩ => ?_)
  rcases he with ⟨_, he, _⟩ | ⟨_, _, he⟩ | ⟨he, _⟩
  · omega
  · exact ⟨_, _, r, arpHead, p, he, chain_errno w' 3, h⟩
  · exact absurd rfl he
theorem aParse_ok (v : Value) (p : Pkt) (r : List UInt8) (w : World) (hp : p.In) (ho : p.op = 1 ∨ p.op = 2) (hL : (p.bs ++ r).length ≤ 1099511627776) (hr : Rd w v (p.bs ++ r)) :
    Calls Tryd.prog 5 #[v] w fun e w' => e = .returned (.tuple #[p.val, .nilIface]) ∧ Below w.heap.size w w' := by
  have e : p.bs ++ r = arpHead ++ (be2 p.op ++ (p.sha.bs ++ (be4 p.spa ++ (p.tha.bs ++ (be4 p.tpa ++ r))))) := by simp only [Pkt.bs, List.append_assoc]
  rw [e] at hr hL
  refine aParse_good p v _ w hr hL ((until_at w arpHead p r rfl hp hL).mono fun e w' ⟨he, h⟩ => ?_)
  rcases he with ⟨_, _, he⟩ | ⟨_, he, _⟩ | ⟨he, _⟩
  · exact ⟨he, r, arpHead, h⟩
  · omega
  · exact absurd rfl he
end Go.Proofs.YthinmonahnbkdaaDoor
