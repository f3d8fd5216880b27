/-
  What is proved: 'of' of the laws of layer 7 by contract; messages of one text are the same; a message's bytes cut at two thousand.
  Conditions: the message's numbers fit their types.
  What is proved: IcmpBack' function by contract: it returns true and leaves all older memory as it was.
  Conditions: errors.errorType holds the handle of the type error; the message's numbers fit their types.
  What is proved: the row and the tied card of IcmpBack out of its function's contract.
  Conditions: the contract, handed in; the listed package-level variables start as the program's text lays them (the card ties them).
  What is proved: IcmpBack: for any message, place, byte and cut, the law returns true and leaves its arguments as they were (the tied card).
  Conditions: the listed package-level variables start as the program's text lays them (the card ties them).
-/
import Derived.Test.YtlhanaglhkmcfaaDoorILift
import Derived.Test.YtlhanaglhkmcfaaDoorITurn
import Derived.Test.YtlhanaglhkmcfaaDoorIShown
import Derived.Test.YtlhanaglhkmcfaaDoorCards
import Derived.Test.YtlhanaglhkmcfaaDoorTie
import Derived.SevenTiedAt
namespace Go.Proofs.YtlhanaglhkmcfaaDoor
open Go.RowKit

theorem refMsSize : (Tryd.prog.info? 33).map (·.size) = some 4 := by kernel_rfl
def refMsZero : Array Value := #[.int .u32 0, .int .u32 0, .int .u32 0, .string ⟨#[]⟩]
theorem iu32_fits (n : Nat) (h : n < 65536) : IntKind.u32.wrap (n : Int) = (n : Int) := by
  have h1 : IntKind.u32.bits = 32 := rfl
  have h2 : IntKind.u32.signed = false := rfl
  simp [IntKind.wrap, h1, h2]
  omega
set_option maxRecDepth 100000 in
set_option maxHeartbeats 2000000 in
theorem iof_any (m : Ms) (hm : m.In) (A : Option Addr) (cap : Nat) (w : World) (hr : Rd w (.slice A m.b.length cap) m.b) :
    Calls Tryd.prog 8 #[.agg #[.int .u8 m.typ, .int .u8 m.code, .int .u32 m.rest, .slice A m.b.length cap]] w fun e w' => e = .returned (.agg #[.int .u32 m.typ, .int .u32 m.code, .int .u32 m.rest, .string (txt m.b)]) ∧ Below w.heap.size w w' := by
  have f1 := iu32_fits m.typ (by have := hm.typ; omega)
  have f2 := iu32_fits m.code (by have := hm.code; omega)
  have HX := Lib.hid ((MsAt.new w m (.slice A m.b.length cap)).below (below_al (Below.refl _ _) (.cells refMsZero 33)))
  have HZ : Hid (((w.alloc (m.obj (.slice A m.b.length cap))).alloc (.cells refMsZero 33)).heap[w.heap.size + 1]? = some (.cells refMsZero 33)) := by
    have h := heap_alloc_new (w.alloc (m.obj (.slice A m.b.length cap))) (.cells refMsZero 33)
    rw [World.size_alloc] at h
    exact h
  have hb := below_al (below_al (Below.refl w.heap.size w) (m.obj (.slice A m.b.length cap))) (.cells refMsZero 33)
  have cv := convert_rd (hr.below hb)
  have HB := Lib.hid hb
  clear hb hr hm
  generalize hW : (w.alloc (m.obj (.slice A m.b.length cap))).alloc (.cells refMsZero 33) = W at *
  unfold Ms.obj refMsZero at hW
  have HWW := Lib.hid hW
  clear hW
  obtain ⟨c0, c1, c2, c3⟩ := HX.out.cells
  generalize txt m.b = tb at *
  go_enter Tryd.func8, Tryd.ntmps8
  go_upto_region 1 with fail
  rw [HWW.out]
  clear HWW
  go_wp2_with (refine wpList_store_row rfl 33 (.tmp 2) (.tmp 14) rfl (w.heap.size + 1) #[.int .u32 m.typ, .int .u32 m.code, .int .u32 m.rest, .string tb] rfl rfl 33 _ HZ.out refMsSize rfl (by simp [Value.oneCell']) ?_)
  (try simp only [Exit.inBlock, Exit.then])
  refine bodyPost_ret (results_cell_row rfl _ _ (w.heap.size + 1) _ #[.int .u32 m.typ, .int .u32 m.code, .int .u32 m.rest, .string tb] (0, 0) _ rfl (setRow_heap _ _ _ _ _ _ HZ.out) Tryd.underlying33 rfl refMsSize) rfl ?_
  exact ⟨rfl, ((Fr.of_below (p := fun _ => False) HB.out).row (Nat.le_succ _) _).below (Nat.le_refl _) (fun _ h => h.elim)⟩
theorem itxt_list (a : List UInt8) : (txt a).toList = a := ByteArray.toList_mk a
/-- '==' on the document's messages as a Boolean. -/
def msB (d e : Ms) : Bool := decide ((d.typ : Int) = e.typ) && (decide ((d.code : Int) = e.code) && (decide ((d.rest : Int) = e.rest) && (decide ((txt d.b).toList = (txt e.b).toList) && true)))
theorem msB_iff (d e : Ms) : msB d e = true ↔ d = e := by
  obtain ⟨a0, a1, a2, a3⟩ := d
  obtain ⟨b0, b1, b2, b3⟩ := e
  have en : ∀ a b : Nat, (a : Int) = b ↔ a = b := fun _ _ => by omega
  simp [msB, en, itxt_list]
theorem msB_same (d : Ms) : msB d d = true := (msB_iff d d).2 rfl
theorem iite_ok {c : Prop} [Decidable c] (b : Bool) (w : World) : (if c then (Result.ok b w : Result Bool) else Result.ok false w) = Result.ok (decide c && b) w := by
  by_cases h : c <;> simp [h]
set_option maxRecDepth 100000 in
set_option maxHeartbeats 2000000 in
theorem refMs_eq (a0 a1 a2 b0 b1 b2 : Int) (a3 b3 : ByteArray) (w : World) : (Op.equalIn 10000 33 (.agg #[.int .u32 a0, .int .u32 a1, .int .u32 a2, .string a3]) (.agg #[.int .u32 b0, .int .u32 b1, .int .u32 b2, .string b3])).run Tryd.prog w =
    .ok (decide (a0 = b0) && (decide (a1 = b1) && (decide (a2 = b2) && (decide (a3.toList = b3.toList) && true)))) w := by
  have u1 := Tryd.underlying22
  have u4 := Tryd.underlying9
  have a1' := Tryd.isAgg22
  have a4' := Tryd.isAgg9
  have z1 := Tryd.sizeOf22
  have z4 := Tryd.sizeOf9
  have hS : Tryd.prog.underlying 33 = some (.struct (Tryd.prog.fieldsOf 33)) := by kernel_rfl
  have hp : Tryd.prog.stoodInHeld 33 = false := by kernel_rfl
  rw [show (10000 : Nat) = 9999 + 1 from rfl, run_equalIn_agg w 9999 33 _ _ hS hp]
  simp only [Program.fieldsOf, Tryd.underlying33]
  go_simp
  simp only [iite_ok, Bool.and_true]
theorem refMs_eqB (d e : Ms) (w : World) : (Op.equalIn 10000 33 (.agg #[.int .u32 d.typ, .int .u32 d.code, .int .u32 d.rest, .string (txt d.b)]) (.agg #[.int .u32 e.typ, .int .u32 e.code, .int .u32 e.rest, .string (txt e.b)])).run Tryd.prog w = .ok (msB d e) w := refMs_eq _ _ _ _ _ _ _ _ w
theorem ibyte_inj {a b : Nat} (ha : a < 256) (hb : b < 256) (h : UInt8.ofNat a = UInt8.ofNat b) : a = b := by
  have e1 : (UInt8.ofNat a).toNat = a := by rw [ofNat_lt]; omega
  have e2 : (UInt8.ofNat b).toNat = b := by rw [ofNat_lt]; omega
  rw [← e1, h, e2]
theorem ibe2_inj {a b : Nat} (ha : a < 65536) (hb : b < 65536) (h : be2 a = be2 b) : a = b := by
  unfold be2 at h
  injection h with h1 h2
  injection h2 with h2 _
  have e1 := be2_sum a ha
  have e2 := be2_sum b hb
  rw [h1, h2] at e1
  omega
theorem be4_sum (n : Nat) (hn : n < 4294967296) : (((UInt8.ofNat (n / 16777216)).toNat * 256 + (UInt8.ofNat (n / 65536)).toNat) * 256 + (UInt8.ofNat (n / 256)).toNat) * 256 + (UInt8.ofNat n).toNat = n := by rw [ofNat_lt, ofNat_lt, ofNat_lt, ofNat_lt]; omega
theorem ibe4_inj {a b : Nat} (ha : a < 4294967296) (hb : b < 4294967296) (h : be4 a = be4 b) : a = b := by
  unfold be4 at h
  injection h with h1 h2
  injection h2 with h2 h3
  injection h3 with h3 h4
  injection h4 with h4 _
  have e1 := be4_sum a ha
  have e2 := be4_sum b hb
  rw [h1, h2, h3, h4] at e1
  omega
set_option maxRecDepth 100000 in
theorem Ms.bs_eq {d e : Ms} (hd : d.In) (he : e.In) : d.bs = e.bs ↔ d = e := by
  constructor
  · intro h
    unfold Ms.bs hi8 at h
    simp only [List.append_assoc] at h
    obtain ⟨h1, h⟩ := List.append_inj h rfl
    obtain ⟨h2, h⟩ := List.append_inj h rfl
    obtain ⟨h3, h⟩ := List.append_inj h rfl
    obtain ⟨h4, h5⟩ := List.append_inj h rfl
    have k1 := ibyte_inj hd.typ he.typ (List.cons.inj h1).1
    have k2 := ibyte_inj hd.code he.code (List.cons.inj h2).1
    have k4 := ibe4_inj hd.rest he.rest h4
    obtain ⟨a0, a1, a2, a3⟩ := d
    obtain ⟨b0, b1, b2, b3⟩ := e
    simp only [Ms.mk.injEq]
    exact ⟨k1, k2, k4, h5⟩
  · rintro rfl
    rfl
theorem Ms.bs_same {d e : Ms} (hd : d.In) (he : e.In) : ((txt d.bs).toList == (txt e.bs).toList) = msB d e := by
  rw [itxt_list, itxt_list]
  by_cases h : d = e
  · subst h
    rw [msB_same]
    simp
  · have h1 : msB d e = false := by
      rw [← Bool.not_eq_true, msB_iff]
      exact h
    rw [h1, beq_eq_false_iff_ne]
    exact fun hh => h ((Ms.bs_eq hd he).1 hh)
/-- A message cut at two thousand bytes. -/
def Ms.few (d : Ms) : Ms := { d with b := d.b.take 2000 }
theorem Ms.few_len (d : Ms) : d.few.b.length = min d.b.length 2000 := by show (d.b.take 2000).length = _; rw [List.length_take]; omega
theorem Ms.few_in {d : Ms} (h : d.Fit) : d.few.In := ⟨h.typ, h.code, h.rest, by rw [d.few_len]; omega⟩
theorem Ms.few_n (d : Ms) : d.few.b.length ≤ 2000 := by have := d.few_len; omega
theorem Ms.few_rd {d : Ms} {A : Option Addr} {cap : Nat} {W : World} (h : Rd W (.slice A d.b.length cap) d.b) : Rd W (.slice A d.few.b.length cap) d.few.b := front_any h 2000
theorem Ms.few_cap {d : Ms} {A : Option Addr} {cap : Nat} {W : World} (h : Rd W (.slice A d.b.length cap) d.b) : d.few.b.length ≤ cap := by
  obtain ⟨A', c', e, hc, _⟩ := h
  simp only [Value.slice.injEq] at e
  rw [d.few_len, e.2.2]
  omega
end Go.Proofs.YtlhanaglhkmcfaaDoor
namespace Go.Proofs.YtlhanaglhkmcfaaDoor
open Go.RowKit

theorem MsAt.set3 {W : World} {G : Nat} {d : Ms} {bv : Value} (h : MsAt W G d bv) (v : Value) : MsAt (W.setCell ⟨G, 3, none⟩ v) G d v := by
  have h' : W.heap[G]? = some (d.obj bv) := h
  unfold MsAt
  rw [heap_set, h']
  simp [Ms.obj]
theorem set_same {l : List UInt8} {j : Nat} {a : UInt8} (h : l[j]? = some a) : l.set j a = l := by
  apply List.ext_getElem?
  intro i
  rw [List.getElem?_set]
  split
  · rename_i e
    subst e
    rw [h]
    split
    · rfl
    · rename_i h2
      have := (List.getElem?_eq_some_iff.1 h).1
      omega
  · rfl
set_option maxRecDepth 100000 in
set_option maxHeartbeats 8000000 in
theorem icmpBack_any (d0 : Ms) (A0 : Option Addr) (c0 : Nat) (n1 : Int) (n2 : Nat) (n3 : Int) (w : World) (hg : Hdl w) (hf0 : d0.Fit) (hr0 : Rd w (.slice A0 d0.b.length c0) d0.b) (_hc0 : c0 ≤ 9223372036854775807)
    (_ : -9223372036854775808 ≤ n1) (_ : n1 ≤ 9223372036854775807) (hn2 : n2 < 256) (_ : -9223372036854775808 ≤ n3) (_ : n3 ≤ 9223372036854775807) :
    Calls Tryd.prog 3 #[d0.val (.slice A0 d0.b.length c0), .int .i64 n1, .int .u8 (n2 : Int), .int .i64 n3] w fun e w' => e = .returned (.bool true) ∧ Below w.heap.size w w' := by
  have b2 := below_al (Below.refl w.heap.size w) (d0.obj (.slice A0 d0.b.length c0))
  have HG := Lib.hid hg
  have HS := Lib.hid (iShown_any (w.alloc (d0.obj (.slice A0 d0.b.length c0))))
  have HX0 : Hid (MsAt (w.alloc (d0.obj (.slice A0 d0.b.length c0))) w.heap.size d0.few (.slice A0 d0.b.length c0)) := MsAt.new w d0 (.slice A0 d0.b.length c0)
  have HB := Lib.hid b2
  have HRP := Lib.hid (Ms.few_rd hr0)
  have HLEN0 := Lib.hid d0.few_len
  have HCAP0 := Lib.hid (Ms.few_cap hr0)
  have HIP := Lib.hid (Ms.few_in hf0)
  have HFN := Lib.hid d0.few_n
  have HN2 := Lib.hid hn2
  have a1 := and_low_i64 n1
  have a3 := and_low_i64 n3
  obtain ⟨u1, hu1⟩ : ∃ u : Nat, n1 % 65536 = (u : Int) := ⟨(n1 % 65536).toNat, by omega⟩
  obtain ⟨u3, hu3⟩ : ∃ u : Nat, n3 % 65536 = (u : Int) := ⟨(n3 % 65536).toNat, by omega⟩
  rw [hu1] at a1
  rw [hu3] at a3
  obtain ⟨j, hj⟩ : ∃ j : Nat, u3 % 8 = j := ⟨_, rfl⟩
  have j1 : (u3 : Int).tmod 8 = (j : Int) := by rw [Int.tmod_eq_emod_of_nonneg (by omega)]; omega
  have j2 : (u3 : Int) % 8 = (j : Int) := by omega
  have HJ : Hid (j < 8) := by show _ < _; omega
  clear b2 hf0 hr0 hg hu1 hu3 hj hn2
  rw [Ms.val_lit]
  have e0 : d0.typ = d0.few.typ ∧ d0.code = d0.few.code ∧ d0.rest = d0.few.rest := ⟨rfl, rfl, rfl⟩
  generalize hW : w.alloc (d0.obj (.slice A0 d0.b.length c0)) = W0 at HX0 HB HS
  unfold Ms.obj at hW
  rw [e0.1, e0.2.1, e0.2.2] at hW ⊢
  clear e0
  generalize d0.few = q at *
  go_enter Tryd.func3, Tryd.ntmps3
  go_upto_region 1 with fail
  (try rw [hW])
  clear hW
  go_wp2_with fail
  refine HS.out.mono ?_
  rintro e w1 ⟨rfl, hl⟩
  have HX0N := Lib.hid (HX0.out.below hl)
  have HBN := Lib.hid (below_to HB.out hl HB.out.size)
  clear HS hl HB HX0
  have HB := HBN
  have HX0 := HX0N
  clear HBN HX0N
  go_upto_region 2 with fail
  obtain ⟨M0, hM0⟩ : ∃ M : Int, ((d0.b.length : Nat) : Int) = M := ⟨_, rfl⟩
  obtain ⟨K0, hK0⟩ : ∃ K : Int, ((q.b.length : Nat) : Int) = K := ⟨_, rfl⟩
  have hx0 : (q.b.length : Nat) = min d0.b.length 2000 := HLEN0.out
  have hmin0 : ∀ W, (Builtin.min_ #[3, 3] 3 #[.int .i64 M0, .int .i64 2000]).run Tryd.prog W = .ok (.int .i64 K0) W := fun W => min_run (P := Tryd.prog) #[3, 3] 3 M0 2000 K0 (by omega) W
  have i1 : 0 ≤ K0 := by omega
  have i2 : ¬ K0 < 0 := by omega
  have i3 : K0 ≤ (c0 : Int) := by have := HCAP0.out; omega
  have i4 : K0.toNat = q.b.length := by omega
  clear hx0 hK0
  have k3 := HX0.out.cells.2.2.2
  have z3 := HX0.out.free 3
  go_upto_region 3 with fail
  have HXN : Hid (MsAt (w1.setCell ⟨w.heap.size, 3, none⟩ (.slice A0 q.b.length c0)) w.heap.size q (.slice A0 q.b.length c0)) := HX0.out.set3 _
  have HBN : Hid (Below w.heap.size w (w1.setCell ⟨w.heap.size, 3, none⟩ (.slice A0 q.b.length c0))) := HB.out.setCell (p := ⟨w.heap.size, 3, none⟩) (Nat.le_refl _) _
  clear hM0 hmin0 i1 i2 i3 i4 k3 z3 HX0 HB
  generalize w1.setCell ⟨w.heap.size, 3, none⟩ (.slice A0 q.b.length c0) = W2 at *
  have HX0 := HXN
  have HB := HBN
  clear HXN HBN
  obtain ⟨M, hM⟩ : ∃ M, q.bs.length = M := ⟨_, rfl⟩
  have HM := Lib.hid hM
  have HM8 : Hid (M = 8 + q.b.length) := by show _ = _; rw [← hM, Ms.bs_len]
  have HXB := Lib.hid (iBytes_any q HIP.out A0 c0 W2 (HRP.out.below HB.out))
  rw [hM] at HXB
  clear hM
  obtain ⟨k0, k1, k2, k3⟩ := HX0.out.cells
  go_wp2_with fail
  refine HXB.out.mono ?_
  rintro e w3 ⟨b, rfl, hbn, hy, hl⟩
  have HY := Lib.hid hy
  have HNB : Hid (w.heap.size < b) := Nat.lt_of_lt_of_le HX0.out.lt hbn
  have HXN := Lib.hid (HX0.out.below hl)
  have HBN := Lib.hid (below_to HB.out hl HB.out.size)
  clear k0 k1 k2 k3 HXB hbn hy hl HX0 HB
  have HYR : Hid (∀ W, BAt W b q.bs → Rd W (.slice (some ⟨b, 0, none⟩) M M) q.bs) := fun W h => by
    have k := h.rd
    rwa [HM.out] at k
  have XP : Hid (∀ W, BAt W b q.bs → Calls Tryd.prog 7 #[.slice (some ⟨b, 0, none⟩) M M] W (MOk q W)) := fun W h => iParse_of q HIP.out _ W (HYR.out W h)
  unfold MOk at XP
  go_wp2_with fail
  refine (XP.out _ HY.out).mono ?_
  rintro e w4 ⟨bx, rfl, hxn, hox, hl⟩
  have hb5 := below_al (Below.refl w4.heap.size w4) (.cells #[.int .u8 q.typ, .int .u8 q.code, .int .u32 q.rest, .slice (some ⟨bx, 0, none⟩) q.b.length q.b.length] 25)
  have l5 := below_to hl hb5 hl.size
  have HP5 : Hid (MsAt (w4.alloc (.cells #[.int .u8 q.typ, .int .u8 q.code, .int .u32 q.rest, .slice (some ⟨bx, 0, none⟩) q.b.length q.b.length] 25)) w4.heap.size q (.slice (some ⟨bx, 0, none⟩) q.b.length q.b.length)) := MsAt.new w4 q _
  have HO5 := Lib.hid (hox.below hb5)
  have HX5 := Lib.hid (HXN.out.below l5)
  have HY5 := Lib.hid (HY.out.below l5)
  have HB5 := Lib.hid (below_to HBN.out l5 HBN.out.size)
  clear hxn hox hl hb5 l5 HXN HY HBN
  go_upto_region 5 with fail
  generalize w4.alloc (.cells #[.int .u8 q.typ, .int .u8 q.code, .int .u32 q.rest, .slice (some ⟨bx, 0, none⟩) q.b.length q.b.length] 25) = W5 at *
  generalize w4.heap.size = g5 at *
  generalize hn : w.heap.size = n at *
  have HW := Lib.hid hn
  clear hn
  have HBW : Hid (∀ W, Below W5.heap.size W5 W → Below w.heap.size w W) := fun W h => by
    have k := HB5.out
    rw [← HW.out] at k
    exact below_to k h k.size
  obtain ⟨PL, hPL⟩ : ∃ PL : Int, ((q.b.length : Nat) : Int) = PL := ⟨_, rfl⟩
  obtain ⟨MI, hMI⟩ : ∃ MI : Int, ((M : Nat) : Int) = MI := ⟨_, rfl⟩
  have hw8 : IntKind.i64.wrap (8 + PL) = MI := by
    have h1 := HM8.out
    have h2 := HFN.out
    rw [IntKind.wrap_i64]
    omega
  go_cut [50] (fun s wx => s = .bool false ∧ Below W5.heap.size W5 wx)
  case first =>
    have HE : Hid (∀ W, _) := fun W => refMs_eqB q q W
    rw [msB_same] at HE
    have X1 : Hid (∀ W, Below W5.heap.size W5 W → Calls Tryd.prog 8 #[.agg #[.int .u8 q.typ, .int .u8 q.code, .int .u32 q.rest, .slice (some ⟨bx, 0, none⟩) q.b.length q.b.length]] W fun e w' => e = .returned (.agg #[.int .u32 q.typ, .int .u32 q.code, .int .u32 q.rest, .string (txt q.b)]) ∧ Below W.heap.size W w') := fun W h => iof_any q HIP.out (some ⟨bx, 0, none⟩) q.b.length W ((HO5.out.below h).rd)
    have X2 : Hid (∀ W, Below W5.heap.size W5 W → Calls Tryd.prog 8 #[.agg #[.int .u8 q.typ, .int .u8 q.code, .int .u32 q.rest, .slice A0 q.b.length c0]] W fun e w' => e = .returned (.agg #[.int .u32 q.typ, .int .u32 q.code, .int .u32 q.rest, .string (txt q.b)]) ∧ Below W.heap.size W w') := fun W h => iof_any q HIP.out A0 c0 W (HRP.out.below (HBW.out W h))
    have KS : Hid (∀ W, Below W5.heap.size W5 W → W.cell? ⟨g5, 0, none⟩ = some (.int .u8 q.typ) ∧ W.cell? ⟨g5, 1, none⟩ = some (.int .u8 q.code) ∧ W.cell? ⟨g5, 2, none⟩ = some (.int .u32 q.rest) ∧ W.cell? ⟨g5, 3, none⟩ = some (.slice (some ⟨bx, 0, none⟩) q.b.length q.b.length) ∧ W.cell? ⟨n, 0, none⟩ = some (.int .u8 q.typ) ∧ W.cell? ⟨n, 1, none⟩ = some (.int .u8 q.code) ∧ W.cell? ⟨n, 2, none⟩ = some (.int .u32 q.rest) ∧ W.cell? ⟨n, 3, none⟩ = some (.slice A0 q.b.length c0)) := fun W h => by
      obtain ⟨e0, e1, e2, e3⟩ := (HP5.out.below h).cells
      obtain ⟨f0, f1, f2, f3⟩ := (HX5.out.below h).cells
      exact ⟨e0, e1, e2, e3, f0, f1, f2, f3⟩
    have HEE := HE.out
    clear HE HP5 HO5 HX5 HY5
    generalize txt q.b = up at *
    go_region_held_law (fun W => W.cell? ⟨g5, 0, none⟩ = some (.int .u8 q.typ) ∧ W.cell? ⟨g5, 1, none⟩ = some (.int .u8 q.code) ∧ W.cell? ⟨g5, 2, none⟩ = some (.int .u32 q.rest) ∧ W.cell? ⟨g5, 3, none⟩ = some (.slice (some ⟨bx, 0, none⟩) q.b.length q.b.length) ∧ W.cell? ⟨n, 0, none⟩ = some (.int .u8 q.typ) ∧ W.cell? ⟨n, 1, none⟩ = some (.int .u8 q.code) ∧ W.cell? ⟨n, 2, none⟩ = some (.int .u32 q.rest) ∧ W.cell? ⟨n, 3, none⟩ = some (.slice A0 q.b.length c0))
      (first | assumption | exact KS.out _ (below_drew W5) | exact KS.out _ H1.out | exact KS.out _ H2.out)
      (first
        | (go_at_call 8; (with_reducible refine (X1.out _ (below_drew W5)).mono ?_); rintro e w6 ⟨rfl, hl1⟩; (have H1 := Lib.hid ((below_drew W5).trans hl1)); clear hl1)
        | (go_at_call 8; (with_reducible refine (X2.out _ H1.out).mono ?_); rintro e w7 ⟨rfl, hl2⟩; (have H2 := Lib.hid (below_to H1.out hl2 H1.out.size)); clear hl2))
    all_goals
      go_wp2_with fail
      go_meet
      exact ⟨rfl, H2.out⟩
  obtain ⟨rfl, hl⟩ := hcut
  have HY6 := Lib.hid (HY5.out.below hl)
  have HB6 := Lib.hid (HBW.out _ hl)
  clear hl hw8 hPL HP5 HO5 HX5 HY5 HB5 HBW
  generalize wc = W6 at *
  go_upto_region 7 with fail
  have HR6 : Hid (Rd W6 (.slice (some ⟨b, 0, none⟩) j M) (q.bs.take j)) := by
    have h := (HYR.out _ HY6.out).frontAt (K := j) (by rw [HM.out]; have h1 := HM8.out; have h2 := HJ.out; omega)
    exact h
  have XS := Lib.hid (iParse_short (q.bs.take j) (.slice (some ⟨b, 0, none⟩) j M) W6 HR6.out (by rw [List.length_take]; have h2 := HJ.out; omega))
  unfold MW at XS
  have s1 : (j : Int) ≤ (M : Int) := by have h1 := HM8.out; have h2 := HJ.out; omega
  have s2 : ¬ (j : Int) < 0 := by omega
  clear hMI
  go_wp2_with fail
  refine XS.out.mono ?_
  rintro e w7 ⟨b7, rfl, hc7, hl⟩
  have hb8 := below_al (Below.refl w7.heap.size w7) (.cells #[.int .u8 0, .int .u8 0, .int .u32 0, .slice none 0 0] 25)
  have l8 := below_to hl hb8 hl.size
  have HC8 := Lib.hid (hc7.below hb8)
  have HY8 := Lib.hid (HY6.out.below l8)
  have HB8 := Lib.hid (below_to HB6.out l8 HB6.out.size)
  clear hc7 hl hb8 l8 HY6 HB6 HR6 XS s1 s2 j1 j2 a3
  go_upto_region 8 with fail
  generalize w7.alloc (.cells #[.int .u8 0, .int .u8 0, .int .u32 0, .slice none 0 0] 25) = W8 at *
  obtain ⟨t, ht⟩ : ∃ t : Nat, u1 % M = t := ⟨_, rfl⟩
  have t0 : t < M := by rw [← ht]; exact Nat.mod_lt _ (by have := HM8.out; omega)
  have t1 : (u1 : Int).tmod (M : Int) = (t : Int) := by rw [Int.tmod_eq_emod_of_nonneg (by omega), ← ht, Int.natCast_emod]
  have t2 : (u1 : Int) % (M : Int) = (t : Int) := by rw [← ht, Int.natCast_emod]
  have M3 : ((M : Int) == 0) = false := by simp; have := HM8.out; omega
  have M4 : decide ((M : Int) = 0) = false := decide_eq_false (by have := HM8.out; omega)
  have M5 : ¬ (M : Int) = 0 := by have := HM8.out; omega
  have tw : IntKind.i64.wrap (t : Int) = (t : Int) := by have := HFN.out; have := HM8.out; rw [IntKind.wrap_i64]; omega
  have HTM := Lib.hid t0
  clear ht
  obtain ⟨a, ha⟩ : ∃ a, q.bs[t]? = some a := ⟨_, List.getElem?_eq_getElem (by rw [HM.out]; exact t0)⟩
  obtain ⟨x, hx1, hx2⟩ := byte_xor a n2 HN2.out
  have k6 := HY8.out.cell t a ha
  have z6 := HY8.out.free t
  have HA := Lib.hid ha
  have HXA := Lib.hid hx2
  have jm : (t : Int) < (M : Int) := by omega
  clear ha hx2
  go_upto_region 10 with fail
  have HY9 := Lib.hid (HY8.out.set t x)
  have HB9 : Hid (Below w.heap.size w (W8.setCell ⟨b, t, none⟩ (B8 x))) := HB8.out.setCell (by have := HNB.out; have := HW.out; show w.heap.size ≤ b; omega) _
  have HC9 : Hid (Chain (W8.setCell ⟨b, t, none⟩ (B8 x)) 2 [icmpWord, octetsWord] (.iface 87 (.pointer (some ⟨b7, 0, none⟩)))) := HY8.out.chain HC8.out t _
  unfold B8 at HY9 HB9 HC9
  clear k6 z6 HY8 HB8 HC8 a1 t1 t2 tw hx1 M3 M4 M5 jm t0
  generalize W8.setCell ⟨b, t, none⟩ (.int .u8 (x.toNat : Int)) = W9 at *
  have HR9 : Hid (Rd W9 (.slice (some ⟨b, 0, none⟩) M M) (q.bs.set t x)) := by
    have h := HY9.out.rd
    rw [List.length_set, HM.out] at h
    exact h
  by_cases hz : n2 = 0
  · have hxa : x = a := HXA.out.2 hz
    have hset : q.bs.set t x = q.bs := by rw [hxa, set_same HA.out]
    have HYE : Hid (BAt W9 b q.bs) := by rw [← hset]; exact HY9.out
    clear hxa hset HR9 HY9 HA HXA
    subst hz
    go_wp2_with fail
    refine (XP.out _ HYE.out).mono ?_
    rintro e w10 ⟨b10, rfl, _, _, hl⟩
    have hb11 := below_al (Below.refl w10.heap.size w10) (.cells #[.int .u8 q.typ, .int .u8 q.code, .int .u32 q.rest, .slice (some ⟨b10, 0, none⟩) q.b.length q.b.length] 25)
    have l11 := below_to hl hb11 hl.size
    have HC11 := Lib.hid (HC9.out.below l11)
    have HB11 := Lib.hid (below_to HB9.out l11 HB9.out.size)
    clear hl hb11 l11 HC9 HB9 HYE
    go_upto_region 11 with fail
    generalize w10.alloc (.cells #[.int .u8 q.typ, .int .u8 q.code, .int .u32 q.rest, .slice (some ⟨b10, 0, none⟩) q.b.length q.b.length] 25) = W11 at *
    go_wp2_with fail
    refine (code_any 2 _ _ _ (HG.out.below HB11.out) HC11.out).mono ?_
    rintro e w12 ⟨rfl, hl⟩
    have HB12 := Lib.hid (below_to HB11.out hl HB11.out.size)
    clear hl
    go_wp2_with fail
    go_ret
    exact ⟨rfl, HB12.out⟩
  · have hn : x ≠ a := fun e => hz (HXA.out.1 e)
    have X := Lib.hid (iParse_sum (q.bs.set t x) _ W9 HR9.out (by rw [List.length_set, Ms.bs_len]; omega) (by rw [List.length_set, HM.out]; have := HM8.out; have := HFN.out; omega) (ck_turned q.bs_ck HA.out hn))
    unfold MW at X
    have z1 : ((n2 : Int) == 0) = false := by simpa using hz
    have z2 : decide ((n2 : Int) = 0) = false := decide_eq_false (by omega)
    have z3 : decide (n2 = 0) = false := decide_eq_false hz
    have z4 : ((n2 : Int) != 0) = true := by simp; omega
    clear hn HXA HA hz
    go_wp2_with fail
    refine X.out.mono ?_
    rintro e w10 ⟨b10, rfl, hc10, hl⟩
    have hb11 := below_al (Below.refl w10.heap.size w10) (.cells #[.int .u8 0, .int .u8 0, .int .u32 0, .slice none 0 0] 25)
    have l11 := below_to hl hb11 hl.size
    have HC11 := Lib.hid (HC9.out.below l11)
    have HD11 := Lib.hid (hc10.below hb11)
    have HB11 := Lib.hid (below_to HB9.out l11 HB9.out.size)
    clear hc10 hl hb11 l11 HC9 HB9 HR9 HY9 X
    go_upto_region 11 with fail
    generalize w10.alloc (.cells #[.int .u8 0, .int .u8 0, .int .u32 0, .slice none 0 0] 25) = W11 at *
    go_wp2_with fail
    refine (code_any 2 _ _ _ (HG.out.below HB11.out) HC11.out).mono ?_
    rintro e w12 ⟨rfl, hl⟩
    have HB12 := Lib.hid (below_to HB11.out hl HB11.out.size)
    have HD12 := Lib.hid (HD11.out.below hl)
    clear hl HC11 HD11 HB11
    go_wp2_with fail
    refine (code_any 4 _ _ _ (HG.out.below HB12.out) HD12.out).mono ?_
    rintro e w13 ⟨rfl, hl⟩
    have HB13 := Lib.hid (below_to HB12.out hl HB12.out.size)
    clear hl
    go_wp2_with fail
    go_ret
    exact ⟨rfl, HB13.out⟩
end Go.Proofs.YtlhanaglhkmcfaaDoor
namespace Go.Proofs.YtlhanaglhkmcfaaDoor
open Go Go.ChangeShapes Go.WideShapes Go.RowKit

/-- The contract. -/
def IcmpBackDoes : Prop := ∀ (m0 : Ms) (A0 : Option Addr) (c0 : Nat) (n1 : Int) (n2 : Nat) (n3 : Int) (w : World), Hdl w → m0.Fit → Rd w (.slice A0 m0.b.length c0) m0.b → c0 ≤ 9223372036854775807 → -9223372036854775808 ≤ n1 → n1 ≤ 9223372036854775807 → n2 < 256 → -9223372036854775808 ≤ n3 → n3 ≤ 9223372036854775807 → Calls Tryd.prog 3 #[m0.val (.slice A0 m0.b.length c0), .int .i64 n1, .int .u8 (n2 : Int), .int .i64 n3] w fun e w' => e = .returned (.bool true) ∧ Below w.heap.size w w'

set_option maxRecDepth 100000 in
theorem icmpBack_lifted (hc : IcmpBackDoes) (os : Os) (started : os.Started) (H : Type) (enc : TypeId × Value → H) :
    ReturnsInHanded {} Tryd.checked os 3 .any (fun w args => (Rows.icmpBackSpec.pre enc Tryd.prog Tryd.f3 [] false w args ∧ laidMetH Tryd.prog laidList w) ∧ sizedMet enc Tryd.prog Tryd.f3 (OpenSpec.ofChange Rows.icmpBackSpec) false w args)
      (Rows.icmpBackSpec.post enc Tryd.prog Tryd.f3 false true false false) := by
  refine returnsInHanded_of_change_and (C := Tryd.checked) (X := fun w _ => laidMetH Tryd.prog laidList w) (fun _ _ _ hh h => h.of_heap hh) ownGodebug started (by kernel_rfl) Tryd.func3
    (ChangeSpec.witness_at (enc := enc) (C := Tryd.checked) (os := os) (X := fun w _ => laidMetH Tryd.prog laidList w) false (laidWorld os) #[.agg #[.int .u8 0, .int .u8 0, .int .u32 0, .slice none 0 0], .int .i64 0, .int .u8 0, .int .i64 0] 8 rfl (by kernel_rfl) (by kernel_rfl) (by kernel_rfl) (by kernel_rfl) (by kernel_rfl) (laidWorld_met os _)) ?_
  intro W base args ds gs before hval0 hW _ _ hL _
  have hval : ∀ (j : Nat) t v, Tryd.f3.params[j]? = some t → args[j]? = some v → Value.okWide Tryd.prog W .any base t v := hval0
  have hW' := hW
  obtain ⟨p, q, hA0, hV0, rfl, hfz, hnd⟩ := hW
  have hA : DataW.TrodAll enc Tryd.prog W 0 (fun _ => true) true Tryd.f3.params.toList args.toList ds p := hA0
  have hV : DataW.TrodVars enc Tryd.prog W (fun _ => true) [] gs q := hV0
  rw [Tryd.params3] at hA hval
  obtain ⟨v0, vs0, d0, ds0, p0, q0, hargs, rfl, rfl, h0, r0⟩ := trodAll_cons hA
  obtain ⟨v1, vs1, d1, ds1, p1, q1, rfl, rfl, rfl, h1, r1⟩ := trodAll_cons r0
  obtain ⟨v2, vs2, d2, ds2, p2, q2, rfl, rfl, rfl, h2, r2⟩ := trodAll_cons r1
  obtain ⟨v3, vs3, d3, ds3, p3, q3, rfl, rfl, rfl, h3, r3⟩ := trodAll_cons r2
  obtain ⟨rfl, rfl, rfl⟩ := trodAll_nil r3
  obtain rfl : args = #[v0, v1, v2, v3] := by cases args; simpa using hargs
  obtain ⟨rfl, rfl⟩ := trodVars_none hV
  obtain ⟨m0, A0, c0, rfl, b0, e0, a0⟩ := open_ms (hval 0 25 v0 rfl rfl) h0
  obtain ⟨n1, rfl, rfl, rfl, w1⟩ := open_int Tryd.underlying3 (hval 1 3 v1 rfl rfl) h1
  obtain ⟨z2, rfl, rfl, rfl, w2⟩ := open_int Tryd.underlying5 (hval 2 5 v2 rfl rfl) h2
  obtain ⟨n2, rfl, b2⟩ := u8n_wf w2
  obtain ⟨n3, rfl, rfl, rfl, w3⟩ := open_int Tryd.underlying3 (hval 3 3 v3 rfl rfl) h3
  refine (hc m0 A0 c0 n1 n2 n3 W (hdl_of_laid hL) a0 e0 b0 (i64_wf w1).1 (i64_wf w1).2 b2 (i64_wf w3).1 (i64_wf w3).2).mono fun e W' ⟨he, hb⟩ => ?_
  subst he
  exact ⟨_, rfl, law_post rfl rfl rfl (by rw [Tryd.params3]; intro t ht; simp at ht; (first | (rcases ht with rfl | rfl | rfl | rfl) | (rcases ht with rfl | rfl | rfl)) <;> (try subst ht) <;> exact ⟨by kernel_rfl, by rw [typesSize]; decide⟩) hW' hb⟩
theorem icmpBack_row (hc : IcmpBackDoes) : Rows.IcmpBackSaid :=
  OpenClaim.holds_of_wide 3 Tryd.f3 rfl rfl rfl rfl rfl rfl rfl ⟨rfl, rfl, rfl, rfl, rfl⟩ rfl rfl rfl rfl rfl (by kernel_rfl) Tryd.func3 (by kernel_rfl)
    (of_decide_eq_true (by kernel_rfl)) (by unfold Func.isWrapper; rw [if_neg (of_decide_eq_false (by kernel_rfl))]; exact ⟨rfl, rfl⟩)
    (fun os started H enc _ => icmpBack_lifted hc os started H enc)
theorem icmpBack_card (hrow : Rows.IcmpBackSaid) : Rows.IcmpBackCardSaid :=
  Claim7.holds_tied_plain_at .later [] [.handle] true _ true
    hrow (fun _ h => by cases h) (by kernel_rfl) (fun _ h => by cases h) icmpBack_row_tie rfl ⟨rfl, rfl⟩ (by kernel_rfl) rfl
    (fun f fn hf hfn => by
      obtain rfl : f = 3 := Option.some.inj ((show Tryd.prog.funcNamed "underpass/underpasslaw07.IcmpBack" = some 3 by kernel_rfl).symm.trans hf) |>.symm
      obtain rfl : fn = Tryd.f3 := (Option.some.inj (Tryd.func3.symm.trans hfn)).symm
      exact ⟨by kernel_rfl, fun j t ht => by
        rw [Tryd.params3] at ht
        rcases j with _ | _ | _ | _ | j
        · have h3 : t = 25 := by simpa using ht.symm
          subst h3
          exact (show Tryd.prog.wantsStandIn 25 = false by kernel_rfl)
        · have h3 : t = 3 := by simpa using ht.symm
          subst h3
          exact (show Tryd.prog.wantsStandIn 3 = false by kernel_rfl)
        · have h3 : t = 5 := by simpa using ht.symm
          subst h3
          exact (show Tryd.prog.wantsStandIn 5 = false by kernel_rfl)
        · have h3 : t = 3 := by simpa using ht.symm
          subst h3
          exact (show Tryd.prog.wantsStandIn 3 = false by kernel_rfl)
        · simp at ht⟩)
    (by kernel_rfl)
end Go.Proofs.YtlhanaglhkmcfaaDoor
namespace Go.Proofs.YtlhanaglhkmcfaaDoor
theorem icmpBack_holds : Rows.IcmpBackCardSaid := icmpBack_card (icmpBack_row icmpBack_any)
end Go.Proofs.YtlhanaglhkmcfaaDoor
