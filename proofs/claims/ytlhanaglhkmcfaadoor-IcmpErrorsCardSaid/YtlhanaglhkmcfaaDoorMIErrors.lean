/-
  What is proved: 'of' of the laws of layer 7 by contract; messages of one text are the same; a message's bytes cut at two thousand.
  Conditions: the message's numbers fit their types.
  What is proved: IcmpErrors' function by contract: it returns true and leaves all older memory as it was.
  Conditions: errors.errorType holds the handle of the type error; the packet's numbers fit their types.
  What is proved: the row and the tied card of IcmpErrors out of its function's contract.
  Conditions: the contract, handed in; the listed package-level variables start as the program's text lays them (the card ties them).
  What is proved: IcmpErrors: for any packet, type, code and number, the law returns true and leaves its arguments as they were (the tied card).
  Conditions: the listed package-level variables start as the program's text lays them (the card ties them).
-/
import Derived.Test.YtlhanaglhkmcfaaDoorILift
import Derived.Test.YtlhanaglhkmcfaaDoorITurn
import Derived.Test.YtlhanaglhkmcfaaDoorIShown
import Derived.Test.YtlhanaglhkmcfaaDoorCards
import Derived.Test.YtlhanaglhkmcfaaDoorTie
import Derived.SevenTiedAt
namespace Go.Proofs.YtlhanaglhkmcfaaDoor
open Go.RowKit

theorem refMsSize : (Tryd.prog.info? 33).map (·.size) = some 4 := by kernel_rfl
def refMsZero : Array Value := #[.int .u32 0, .int .u32 0, .int .u32 0, .string ⟨#[]⟩]
theorem iu32_fits (n : Nat) (h : n < 65536) : IntKind.u32.wrap (n : Int) = (n : Int) := by
  have h1 : IntKind.u32.bits = 32 := rfl
  have h2 : IntKind.u32.signed = false := rfl
  simp [IntKind.wrap, h1, h2]
  omega
set_option maxRecDepth 100000 in
set_option maxHeartbeats 2000000 in
theorem iof_any (m : Ms) (hm : m.In) (A : Option Addr) (cap : Nat) (w : World) (hr : Rd w (.slice A m.b.length cap) m.b) :
    Calls Tryd.prog 8 #[.agg #[.int .u8 m.typ, .int .u8 m.code, .int .u32 m.rest, .slice A m.b.length cap]] w fun e w' => e = .returned (.agg #[.int .u32 m.typ, .int .u32 m.code, .int .u32 m.rest, .string (txt m.b)]) ∧ Below w.heap.size w w' := by
  have f1 := iu32_fits m.typ (by have := hm.typ; omega)
  have f2 := iu32_fits m.code (by have := hm.code; omega)
  have HX := Lib.hid ((MsAt.new w m (.slice A m.b.length cap)).below (below_al (Below.refl _ _) (.cells refMsZero 33)))
  have HZ : Hid (((w.alloc (m.obj (.slice A m.b.length cap))).alloc (.cells refMsZero 33)).heap[w.heap.size + 1]? = some (.cells refMsZero 33)) := by
    have h := heap_alloc_new (w.alloc (m.obj (.slice A m.b.length cap))) (.cells refMsZero 33)
    rw [World.size_alloc] at h
    exact h
  have hb := below_al (below_al (Below.refl w.heap.size w) (m.obj (.slice A m.b.length cap))) (.cells refMsZero 33)
  have cv := convert_rd (hr.below hb)
  have HB := Lib.hid hb
  clear hb hr hm
  generalize hW : (w.alloc (m.obj (.slice A m.b.length cap))).alloc (.cells refMsZero 33) = W at *
  unfold Ms.obj refMsZero at hW
  have HWW := Lib.hid hW
  clear hW
  obtain ⟨c0, c1, c2, c3⟩ := HX.out.cells
  generalize txt m.b = tb at *
  go_enter Tryd.func8, Tryd.ntmps8
  go_upto_region 1 with fail
  rw [HWW.out]
  clear HWW
  go_wp2_with (refine wpList_store_row rfl 33 (.tmp 2) (.tmp 14) rfl (w.heap.size + 1) #[.int .u32 m.typ, .int .u32 m.code, .int .u32 m.rest, .string tb] rfl rfl 33 _ HZ.out refMsSize rfl (by simp [Value.oneCell']) ?_)
  (try simp only [Exit.inBlock, Exit.then])
  refine bodyPost_ret (results_cell_row rfl _ _ (w.heap.size + 1) _ #[.int .u32 m.typ, .int .u32 m.code, .int .u32 m.rest, .string tb] (0, 0) _ rfl (setRow_heap _ _ _ _ _ _ HZ.out) Tryd.underlying33 rfl refMsSize) rfl ?_
  exact ⟨rfl, ((Fr.of_below (p := fun _ => False) HB.out).row (Nat.le_succ _) _).below (Nat.le_refl _) (fun _ h => h.elim)⟩
theorem itxt_list (a : List UInt8) : (txt a).toList = a := ByteArray.toList_mk a
/-- '==' on the document's messages as a Boolean. -/
def msB (d e : Ms) : Bool := decide ((d.typ : Int) = e.typ) && (decide ((d.code : Int) = e.code) && (decide ((d.rest : Int) = e.rest) && (decide ((txt d.b).toList = (txt e.b).toList) && true)))
theorem msB_iff (d e : Ms) : msB d e = true ↔ d = e := by
  obtain ⟨a0, a1, a2, a3⟩ := d
  obtain ⟨b0, b1, b2, b3⟩ := e
  have en : ∀ a b : Nat, (a : Int) = b ↔ a = b := fun _ _ => by omega
  simp [msB, en, itxt_list]
theorem msB_same (d : Ms) : msB d d = true := (msB_iff d d).2 rfl
theorem iite_ok {c : Prop} [Decidable c] (b : Bool) (w : World) : (if c then (Result.ok b w : Result Bool) else Result.ok false w) = Result.ok (decide c && b) w := by
  by_cases h : c <;> simp [h]
set_option maxRecDepth 100000 in
set_option maxHeartbeats 2000000 in
theorem refMs_eq (a0 a1 a2 b0 b1 b2 : Int) (a3 b3 : ByteArray) (w : World) : (Op.equalIn 10000 33 (.agg #[.int .u32 a0, .int .u32 a1, .int .u32 a2, .string a3]) (.agg #[.int .u32 b0, .int .u32 b1, .int .u32 b2, .string b3])).run Tryd.prog w =
    .ok (decide (a0 = b0) && (decide (a1 = b1) && (decide (a2 = b2) && (decide (a3.toList = b3.toList) && true)))) w := by
  have u1 := Tryd.underlying22
  have u4 := Tryd.underlying9
  have a1' := Tryd.isAgg22
  have a4' := Tryd.isAgg9
  have z1 := Tryd.sizeOf22
  have z4 := Tryd.sizeOf9
  have hS : Tryd.prog.underlying 33 = some (.struct (Tryd.prog.fieldsOf 33)) := by kernel_rfl
  have hp : Tryd.prog.stoodInHeld 33 = false := by kernel_rfl
  rw [show (10000 : Nat) = 9999 + 1 from rfl, run_equalIn_agg w 9999 33 _ _ hS hp]
  simp only [Program.fieldsOf, Tryd.underlying33]
  go_simp
  simp only [iite_ok, Bool.and_true]
theorem refMs_eqB (d e : Ms) (w : World) : (Op.equalIn 10000 33 (.agg #[.int .u32 d.typ, .int .u32 d.code, .int .u32 d.rest, .string (txt d.b)]) (.agg #[.int .u32 e.typ, .int .u32 e.code, .int .u32 e.rest, .string (txt e.b)])).run Tryd.prog w = .ok (msB d e) w := refMs_eq _ _ _ _ _ _ _ _ w
theorem ibyte_inj {a b : Nat} (ha : a < 256) (hb : b < 256) (h : UInt8.ofNat a = UInt8.ofNat b) : a = b := by
  have e1 : (UInt8.ofNat a).toNat = a := by rw [ofNat_lt]; omega
  have e2 : (UInt8.ofNat b).toNat = b := by rw [ofNat_lt]; omega
  rw [← e1, h, e2]
theorem ibe2_inj {a b : Nat} (ha : a < 65536) (hb : b < 65536) (h : be2 a = be2 b) : a = b := by
  unfold be2 at h
  injection h with h1 h2
  injection h2 with h2 _
  have e1 := be2_sum a ha
  have e2 := be2_sum b hb
  rw [h1, h2] at e1
  omega
theorem be4_sum (n : Nat) (hn : n < 4294967296) : (((UInt8.ofNat (n / 16777216)).toNat * 256 + (UInt8.ofNat (n / 65536)).toNat) * 256 + (UInt8.ofNat (n / 256)).toNat) * 256 + (UInt8.ofNat n).toNat = n := by rw [ofNat_lt, ofNat_lt, ofNat_lt, ofNat_lt]; omega
theorem ibe4_inj {a b : Nat} (ha : a < 4294967296) (hb : b < 4294967296) (h : be4 a = be4 b) : a = b := by
  unfold be4 at h
  injection h with h1 h2
  injection h2 with h2 h3
  injection h3 with h3 h4
  injection h4 with h4 _
  have e1 := be4_sum a ha
  have e2 := be4_sum b hb
  rw [h1, h2, h3, h4] at e1
  omega
set_option maxRecDepth 100000 in
theorem Ms.bs_eq {d e : Ms} (hd : d.In) (he : e.In) : d.bs = e.bs ↔ d = e := by
  constructor
  · intro h
    unfold Ms.bs hi8 at h
    simp only [List.append_assoc] at h
    obtain ⟨h1, h⟩ := List.append_inj h rfl
    obtain ⟨h2, h⟩ := List.append_inj h rfl
    obtain ⟨h3, h⟩ := List.append_inj h rfl
    obtain ⟨h4, h5⟩ := List.append_inj h rfl
    have k1 := ibyte_inj hd.typ he.typ (List.cons.inj h1).1
    have k2 := ibyte_inj hd.code he.code (List.cons.inj h2).1
    have k4 := ibe4_inj hd.rest he.rest h4
    obtain ⟨a0, a1, a2, a3⟩ := d
    obtain ⟨b0, b1, b2, b3⟩ := e
    simp only [Ms.mk.injEq]
    exact ⟨k1, k2, k4, h5⟩
  · rintro rfl
    rfl
theorem Ms.bs_same {d e : Ms} (hd : d.In) (he : e.In) : ((txt d.bs).toList == (txt e.bs).toList) = msB d e := by
  rw [itxt_list, itxt_list]
  by_cases h : d = e
  · subst h
    rw [msB_same]
    simp
  · have h1 : msB d e = false := by
      rw [← Bool.not_eq_true, msB_iff]
      exact h
    rw [h1, beq_eq_false_iff_ne]
    exact fun hh => h ((Ms.bs_eq hd he).1 hh)
/-- A message cut at two thousand bytes. -/
def Ms.few (d : Ms) : Ms := { d with b := d.b.take 2000 }
theorem Ms.few_len (d : Ms) : d.few.b.length = min d.b.length 2000 := by show (d.b.take 2000).length = _; rw [List.length_take]; omega
theorem Ms.few_in {d : Ms} (h : d.Fit) : d.few.In := ⟨h.typ, h.code, h.rest, by rw [d.few_len]; omega⟩
theorem Ms.few_n (d : Ms) : d.few.b.length ≤ 2000 := by have := d.few_len; omega
theorem Ms.few_rd {d : Ms} {A : Option Addr} {cap : Nat} {W : World} (h : Rd W (.slice A d.b.length cap) d.b) : Rd W (.slice A d.few.b.length cap) d.few.b := front_any h 2000
theorem Ms.few_cap {d : Ms} {A : Option Addr} {cap : Nat} {W : World} (h : Rd W (.slice A d.b.length cap) d.b) : d.few.b.length ≤ cap := by
  obtain ⟨A', c', e, hc, _⟩ := h
  simp only [Value.slice.injEq] at e
  rw [d.few_len, e.2.2]
  omega
end Go.Proofs.YtlhanaglhkmcfaaDoor
namespace Go.Proofs.YtlhanaglhkmcfaaDoor
open Go.RowKit

theorem IpAt.set9 {W : World} {G : Nat} {d : Ip} {bv : Value} (h : IpAt W G d bv) (v : Value) : IpAt (W.setCell ⟨G, 9, none⟩ v) G d v := by
  have h' : W.heap[G]? = some (d.obj bv) := h
  unfold IpAt
  rw [heap_set, h']
  simp [Ip.obj]
theorem IpAt.set6 {W : World} {G : Nat} {d : Ip} {bv : Value} (h : IpAt W G d bv) (v : Nat) : IpAt (W.setCell ⟨G, 6, none⟩ (.int .u8 v)) G { d with proto := v } bv := by
  have h' : W.heap[G]? = some (d.obj bv) := h
  unfold IpAt
  rw [heap_set, h']
  simp [Ip.obj]
theorem IpAt.set4 {W : World} {G : Nat} {d : Ip} {bv : Value} (h : IpAt W G d bv) (v : Int) : IpAt (W.setCell ⟨G, 4, none⟩ (.int .i64 v)) G { d with off := v } bv := by
  have h' : W.heap[G]? = some (d.obj bv) := h
  unfold IpAt
  rw [heap_set, h']
  simp [Ip.obj]
/-- A packet cut at two thousand bytes. -/
def Ip.few2 (d : Ip) : Ip := { d with b := d.b.take 2000 }
theorem Ip.few2_len (d : Ip) : d.few2.b.length = min d.b.length 2000 := by show (d.b.take 2000).length = _; rw [List.length_take]; omega
theorem Ip.few2_in {d : Ip} (h : d.Fit) : d.few2.In := h.inn _ (by rw [List.length_take]; omega)
theorem Ip.few2_n (d : Ip) : d.few2.b.length ≤ 2000 := by have := d.few2_len; omega
theorem Ip.few2_rd {d : Ip} {A : Option Addr} {cap : Nat} {W : World} (h : Rd W (.slice A d.b.length cap) d.b) : Rd W (.slice A d.few2.b.length cap) d.few2.b := front_any h 2000
theorem Ip.few2_cap {d : Ip} {A : Option Addr} {cap : Nat} {W : World} (h : Rd W (.slice A d.b.length cap) d.b) : d.few2.b.length ≤ cap := by
  obtain ⟨A', c', e, hc, _⟩ := h
  simp only [Value.slice.injEq] at e
  rw [d.few2_len, e.2.2]
  omega
theorem Ms.echo_bs (m : Ms) (h : m.typ < 256) : echo m.bs = (decide (m.typ = 8) || decide (m.typ = 0)) := by
  have e : m.bs = UInt8.ofNat m.typ :: (UInt8.ofNat m.code :: (be2 m.ck ++ (be4 m.rest ++ m.b))) := rfl
  rw [e]
  show (decide ((UInt8.ofNat m.typ).toNat = 8) || decide ((UInt8.ofNat m.typ).toNat = 0)) = _
  rw [ofNat_lt, Nat.mod_eq_of_lt h]
/-- The packet that has an error in it. -/
def errP (p : Ip) (m : Ms) : Ip := ⟨0, 0, false, false, 0, 0, 1, p.dst, p.src, m.bs⟩
theorem errP_bad (p : Ip) (m : Ms) (h : m.bs.length ≤ 65515) : (errP p m).bad = 0 := by
  unfold Ip.bad Ip.arg errP
  simp
  omega
theorem errP_in {p : Ip} (hp : p.In) (m : Ms) (h : m.bs.length ≤ 65515) : (errP p m).In :=
  ⟨by show 0 < 256; decide, by show 0 < 65536; decide, ⟨by show (-9223372036854775808 : Int) ≤ 0; decide, by show (0 : Int) ≤ 9223372036854775807; decide⟩, by show 0 < 256; decide, by show 1 < 256; decide, hp.dst, hp.src, by show m.bs.length ≤ _; omega⟩
theorem errP_tell (p : Ip) (m : Ms) : (errP p m).tell = echo m.bs := by
  unfold Ip.tell errP
  simp
set_option maxRecDepth 100000 in
set_option maxHeartbeats 8000000 in
theorem icmpErrors_any (d0 : Ip) (A0 : Option Addr) (c0 : Nat) (n1 : Nat) (n2 : Nat) (n3 : Nat) (w : World) (hg : Hdl w) (hf0 : d0.Fit) (hr0 : Rd w (.slice A0 d0.b.length c0) d0.b) (_hc0 : c0 ≤ 9223372036854775807) (hn1 : n1 < 256) (hn2 : n2 < 256) (hn3 : n3 < 4294967296) :
    Calls Tryd.prog 4 #[d0.val (.slice A0 d0.b.length c0), .int .u8 (n1 : Int), .int .u8 (n2 : Int), .int .u32 (n3 : Int)] w fun e w' => e = .returned (.bool true) ∧ Below w.heap.size w w' := by
  have HG := Lib.hid hg
  clear hg
  have b2 := below_al (Below.refl w.heap.size w) (d0.obj (.slice A0 d0.b.length c0))
  have HS := Lib.hid (iShown_any (w.alloc (d0.obj (.slice A0 d0.b.length c0))))
  have HX0 : Hid (IpAt (w.alloc (d0.obj (.slice A0 d0.b.length c0))) w.heap.size d0.few2 (.slice A0 d0.b.length c0)) := IpAt.new w d0 (.slice A0 d0.b.length c0)
  have HB := Lib.hid b2
  have HRP := Lib.hid (Ip.few2_rd hr0)
  have HLEN0 := Lib.hid d0.few2_len
  have HCAP0 := Lib.hid (Ip.few2_cap hr0)
  have HIP := Lib.hid (Ip.few2_in hf0)
  have HNP := Lib.hid d0.few2_n
  have HN := Lib.hid (And.intro hn1 (And.intro hn2 hn3))
  clear hn1 hn2 hn3
  clear b2 hf0 hr0
  rw [Ip.val_lit]
  have e0 : d0.tos = d0.few2.tos ∧ d0.id = d0.few2.id ∧ d0.df = d0.few2.df ∧ d0.mf = d0.few2.mf ∧ d0.off = d0.few2.off ∧ d0.ttl = d0.few2.ttl ∧ d0.proto = d0.few2.proto ∧ d0.src = d0.few2.src ∧ d0.dst = d0.few2.dst := ⟨rfl, rfl, rfl, rfl, rfl, rfl, rfl, rfl, rfl⟩
  generalize hW : (w.alloc (d0.obj (.slice A0 d0.b.length c0))) = W0 at HX0 HB HS
  unfold Ip.obj at hW
  obtain ⟨e1, e2, e3, e4, e5, e6, e7, e8, e9⟩ := e0
  rw [e1, e2, e3, e4, e5, e6, e7, e8, e9] at hW ⊢
  clear e1 e2 e3 e4 e5 e6 e7 e8 e9
  generalize d0.few2 = p at *
  go_enter Tryd.func4, Tryd.ntmps4
  go_upto_region 1 with fail
  (try rw [hW])
  clear hW
  go_wp2_with fail
  refine HS.out.mono ?_
  rintro e w1 ⟨rfl, hl⟩
  have HX0N := Lib.hid (HX0.out.below hl)
  have HBN := Lib.hid (below_to HB.out hl HB.out.size)
  clear HS hl HB HX0
  have HB := HBN
  have HX0 := HX0N
  clear HBN HX0N
  go_upto_region 2 with fail
  obtain ⟨M0, hM0⟩ : ∃ M : Int, ((d0.b.length : Nat) : Int) = M := ⟨_, rfl⟩
  obtain ⟨K0, hK0⟩ : ∃ K : Int, ((p.b.length : Nat) : Int) = K := ⟨_, rfl⟩
  have hx0 : (p.b.length : Nat) = min d0.b.length 2000 := HLEN0.out
  have hmin0 : ∀ W, (Builtin.min_ #[3, 3] 3 #[.int .i64 M0, .int .i64 2000]).run Tryd.prog W = .ok (.int .i64 K0) W := fun W => min_run (P := Tryd.prog) #[3, 3] 3 M0 2000 K0 (by omega) W
  have i1 : 0 ≤ K0 := by omega
  have i2 : ¬ K0 < 0 := by omega
  have i3 : K0 ≤ (c0 : Int) := by have := HCAP0.out; omega
  have i4 : K0.toNat = p.b.length := by omega
  clear hx0 hK0
  have k9 := HX0.out.cells.2.2.2.2.2.2.2.2.2
  have z9 := HX0.out.free 9
  go_upto_region 3 with fail
  have HXN : Hid (IpAt (w1.setCell ⟨w.heap.size, 9, none⟩ (.slice A0 p.b.length c0)) w.heap.size p (.slice A0 p.b.length c0)) := HX0.out.set9 _
  have HBN : Hid (Below w.heap.size w (w1.setCell ⟨w.heap.size, 9, none⟩ (.slice A0 p.b.length c0))) := HB.out.setCell (p := ⟨w.heap.size, 9, none⟩) (Nat.le_refl _) _
  clear hM0 hmin0 i1 i2 i3 i4 k9 z9 HX0 HB
  generalize w1.setCell ⟨w.heap.size, 9, none⟩ (.slice A0 p.b.length c0) = W2 at *
  have HX0 := HXN
  have HB := HBN
  clear HXN HBN
  obtain ⟨d0', d1, d2, d3, d4, d5, d6, d7, d8, d9⟩ := HX0.out.cells
  by_cases hbad : p.bad = 0
  · have HBAD := Lib.hid hbad
    have HXB := Lib.hid (vBytes_ok p HIP.out hbad A0 c0 W2 (HRP.out.below HB.out))
    rw [Ip.val_lit] at HXB
    clear hbad
    go_wp2_with fail
    refine HXB.out.mono ?_
    rintro e w5 ⟨b, rfl, _, hy, hl⟩
    have HY := Lib.hid (show BAt w5 b p.bs from hy)
    have HX5 := Lib.hid (HX0.out.below hl)
    have HB5 := Lib.hid (below_to HB.out hl HB.out.size)
    clear hy hl HXB HB HX0 d0' d1 d2 d3 d4 d5 d6 d7 d8 d9
    cases hte : p.tell
    · have XE := Lib.hid (iError_state p HIP.out HBAD.out hte (.slice (some ⟨b, 0, none⟩) (20 + p.b.length) (20 + p.b.length)) (n1 : Int) (n2 : Int) (n3 : Int) w5 (by rw [← Ip.bs_len]; exact HY.out.rd) (by have := HNP.out; rw [Ip.bs_len]; omega))
      unfold MW at XE
      have HTE := Lib.hid hte
      clear hte
      go_wp2_with fail
      refine XE.out.mono ?_
      rintro e w6 ⟨b6, rfl, hc6, hl⟩
      have hb7 := below_al (Below.refl w6.heap.size w6) (.cells #[.int .u8 0, .int .u8 0, .int .u32 0, .slice none 0 0] 25)
      have l7 := below_to hl hb7 hl.size
      have HC7 := Lib.hid (hc6.below hb7)
      have HX7 := Lib.hid (HX5.out.below l7)
      have HB7 := Lib.hid (below_to HB5.out l7 HB5.out.size)
      clear hc6 hl hb7 l7 HY HX5 HB5 XE
      go_upto_region 8 with fail
      generalize w6.alloc (.cells #[.int .u8 0, .int .u8 0, .int .u32 0, .slice none 0 0] 25) = W7 at *
      go_wp2_with fail
      refine (code_any 8 _ _ _ (HG.out.below HB7.out) HC7.out).mono ?_
      rintro e w8 ⟨rfl, hl⟩
      have HB8 := Lib.hid (below_to HB7.out hl HB7.out.size)
      obtain ⟨d0', d1, d2, d3, d4, d5, d6, d7, d8, d9⟩ := (HX7.out.below hl).cells
      clear hl HB7 HC7 HX7 d0' d1 d2 d3 d5 d7 d8 d9
      by_cases ho : p.off = 0
      · have hp1 : p.proto = 1 := by
          have h := HTE.out
          unfold Ip.tell at h
          rw [decide_eq_true ho] at h
          by_cases hp : p.proto = 1
          · exact hp
          · simp [hp] at h
        rw [ho] at d4
        rw [hp1] at d6
        clear HTE
        go_wp2_with fail
        go_ret
        exact ⟨rfl, HB8.out⟩
      · have o1 : (p.off != 0) = true := by simp [ho]
        have o2 : (p.off == 0) = false := by simp [ho]
        clear HTE
        go_wp2_with fail
        go_ret
        exact ⟨rfl, HB8.out⟩
    · have ho : p.off = 0 := by
        unfold Ip.tell at hte
        by_cases ho : p.off = 0
        · exact ho
        · simp [ho] at hte
      have XE : Hid (Calls Tryd.prog 11 #[.slice (some ⟨b, 0, none⟩) (20 + p.b.length) (20 + p.b.length), .int .u8 (n1 : Int), .int .u8 (n2 : Int), .int .u32 (n3 : Int)] w5 fun e w' => ∃ b k, e = .returned (.tuple #[.agg #[.int .u8 (n1 : Int), .int .u8 (n2 : Int), .int .u32 (n3 : Int), .slice (some ⟨b, 0, none⟩) p.beg k], .nilIface]) ∧ w5.heap.size ≤ b ∧ Rd w' (.slice (some ⟨b, 0, none⟩) p.beg k) (p.bs.take p.beg) ∧ Below w5.heap.size w5 w') := by
        rw [← Ip.bs_len]
        exact iError_ok p HIP.out HBAD.out hte b _ _ _ _ w5 HY.out.rd (by have := HNP.out; rw [Ip.bs_len]; omega)
      clear hte
      obtain ⟨G, hG⟩ : ∃ G, p.beg = G := ⟨_, rfl⟩
      obtain ⟨l, hl0⟩ : ∃ l, p.bs.take G = l := ⟨_, rfl⟩
      obtain ⟨N, hN⟩ : ∃ N, 20 + p.b.length = N := ⟨_, rfl⟩
      have HLN : Hid (p.bs.length = N) := by rw [← hN]; exact p.bs_len
      have HGG : Hid (G = min N 28 ∧ G ≤ N ∧ 20 ≤ G) := by
        have e : p.beg = 20 + min p.b.length 8 := rfl
        show _ ∧ _
        omega
      rw [hG] at XE
      rw [hl0] at XE
      simp only [hN] at XE ⊢
      have HLL := Lib.hid hl0
      have HLG : Hid (l.length = G) := by show _ = _; rw [← hl0, List.length_take, HLN.out]; have := HGG.out; omega
      clear hG hl0 hN
      go_wp2_with fail
      refine XE.out.mono ?_
      rintro e w6 ⟨bm, km, rfl, _, hrm, hl6⟩
      have hb7 := below_al (Below.refl w6.heap.size w6) (.cells #[.int .u8 (n1 : Int), .int .u8 (n2 : Int), .int .u32 (n3 : Int), .slice (some ⟨bm, 0, none⟩) G km] 25)
      have l7 := below_to hl6 hb7 hl6.size
      have HM7 : Hid (MsAt (w6.alloc (.cells #[.int .u8 (n1 : Int), .int .u8 (n2 : Int), .int .u32 (n3 : Int), .slice (some ⟨bm, 0, none⟩) G km] 25)) w6.heap.size ⟨n1, n2, n3, l⟩ (.slice (some ⟨bm, 0, none⟩) G km)) := MsAt.new w6 ⟨n1, n2, n3, l⟩ _
      have HR7 := Lib.hid (hrm.below hb7)
      have HY7 := Lib.hid (HY.out.below l7)
      have HX7 := Lib.hid (HX5.out.below l7)
      have HB7 := Lib.hid (below_to HB5.out l7 HB5.out.size)
      clear hrm hl6 hb7 l7 HY HB5 HX5 XE
      go_upto_region 9 with fail
      generalize w6.alloc (.cells #[.int .u8 (n1 : Int), .int .u8 (n2 : Int), .int .u32 (n3 : Int), .slice (some ⟨bm, 0, none⟩) G km] 25) = W7 at *
      generalize w6.heap.size = g7 at *
      generalize hn : w.heap.size = n at *
      have HW := Lib.hid hn
      clear hn
      have HBW : Hid (∀ W, Below W7.heap.size W7 W → Below w.heap.size w W) := fun W h => by
        have k := HB7.out
        rw [← HW.out] at k
        exact below_to k h k.size
      obtain ⟨T, hT⟩ : ∃ T, txt l = T := ⟨_, rfl⟩
      have HTT := Lib.hid hT
      clear hT
      go_cut [109] (fun s wx => s = .bool false ∧ Below W7.heap.size W7 wx)
      case first =>
        obtain ⟨m0, m1, m2, m3⟩ := HM7.out.cells
        obtain ⟨d0', d1, d2, d3, d4, d5, d6, d7, d8, d9⟩ := HX7.out.cells
        simp only at m0 m1 m2 m3
        rw [ho] at d4
        have v1 : ∀ k, (convert 23 9 (.slice (some ⟨bm, 0, none⟩) G km)).run Tryd.prog (W7.drewN k) = .ok (.string T) (W7.drewN k) := fun k => by rw [← HTT.out]; exact convert_rd (HR7.out.drewN k)
        have v2 : ∀ k, (convert 23 9 (.slice (some ⟨b, 0, none⟩) G N)).run Tryd.prog (W7.drewN k) = .ok (.string T) (W7.drewN k) := fun k => by
          rw [← HTT.out, ← HLL.out]
          have h := HY7.out.rd
          rw [HLN.out] at h
          exact convert_rd ((h.frontAt (K := G) (by rw [HLN.out]; exact HGG.out.2.1)).drewN k)
        have hmin : ∀ W, (Builtin.min_ #[3, 3] 3 #[.int .i64 (N : Int), .int .i64 28]).run Tryd.prog W = .ok (.int .i64 (G : Int)) W := fun W => min_run (P := Tryd.prog) #[3, 3] 3 _ 28 _ (by have := HGG.out; omega) W
        have s1 : ¬ (28 : Int) < (G : Int) := by have := HGG.out; omega
        have s2 : (G : Int) ≤ (N : Int) := by have := HGG.out; omega
        have s3 : ¬ N < G := by have := HGG.out; omega
        have s4 : G ≤ N := HGG.out.2.1
        clear HM7 HX7 HY7 HR7 HB7 d0' d1 d2 d3 d5 d6 d7 d8 d9
        go_quiet (fail)
        go_wp2_with fail
        go_meet
        exact ⟨rfl, below_drewN (Below.refl _ _) _⟩
      obtain ⟨rfl, hl⟩ := hcut
      have HM8 := Lib.hid (HM7.out.below hl)
      have HR8 := Lib.hid (HR7.out.below hl)
      have HX8 := Lib.hid (HX7.out.below hl)
      have HB8 := Lib.hid (HBW.out _ hl)
      clear hl HM7 HR7 HY7 HX7 HB7 HBW
      generalize wc = W8 at *
      go_upto_region 11 with fail
      obtain ⟨m, hm⟩ : ∃ m : Ms, (⟨n1, n2, n3, l⟩ : Ms) = m := ⟨_, rfl⟩
      have HMI : Hid (m.In ∧ m.typ = n1 ∧ m.b.length = G) := by rw [← hm]; exact ⟨⟨HN.out.1, HN.out.2.1, HN.out.2.2, by show l.length ≤ _; rw [HLG.out]; have := HGG.out; omega⟩, rfl, HLG.out⟩
      have HRM : Hid (∀ W, Below W8.heap.size W8 W → Calls Tryd.prog 6 #[.agg #[.int .u8 (n1 : Int), .int .u8 (n2 : Int), .int .u32 (n3 : Int), .slice (some ⟨bm, 0, none⟩) G km]] W fun e w' => ∃ b, e = .returned (.slice (some ⟨b, 0, none⟩) m.bs.length m.bs.length) ∧ W.heap.size ≤ b ∧ BAt w' b m.bs ∧ Below W.heap.size W w') := fun W h => by
        have k := iBytes_any m HMI.out.1 (some ⟨bm, 0, none⟩) km W (by rw [HMI.out.2.2, ← hm]; exact HR8.out.below h)
        rw [HMI.out.2.2, ← hm] at k
        rw [← hm]
        exact k
      have HML : Hid (m.bs.length ≤ 65515) := by show _ ≤ _; rw [Ms.bs_len]; have := HMI.out; have := HGG.out; omega
      have HVB : Hid (∀ (b : Nat) (W : World), BAt W b m.bs → Calls Tryd.prog 10 #[.agg #[.int .u8 0, .int .u16 0, .bool false, .bool false, .int .i64 0, .int .u8 0, .int .u8 1, .int .u32 p.dst, .int .u32 p.src, .slice (some ⟨b, 0, none⟩) m.bs.length m.bs.length]] W fun e w' => ∃ b, e = .returned (.tuple #[.slice (some ⟨b, 0, none⟩) (20 + m.bs.length) (20 + m.bs.length), .nilIface]) ∧ W.heap.size ≤ b ∧ BAt w' b (errP p m).bs ∧ Below W.heap.size W w') := fun b W h =>
        vBytes_ok (errP p m) (errP_in HIP.out m HML.out) (errP_bad p m HML.out) (some ⟨b, 0, none⟩) m.bs.length W h.rd
      have KS : Hid (∀ W, Below W8.heap.size W8 W → W.cell? ⟨g7, 0, none⟩ = some (.int .u8 (n1 : Int)) ∧ W.cell? ⟨g7, 1, none⟩ = some (.int .u8 (n2 : Int)) ∧ W.cell? ⟨g7, 2, none⟩ = some (.int .u32 (n3 : Int)) ∧ W.cell? ⟨g7, 3, none⟩ = some (.slice (some ⟨bm, 0, none⟩) G km) ∧ W.cell? ⟨n, 7, none⟩ = some (.int .u32 p.src) ∧ W.cell? ⟨n, 8, none⟩ = some (.int .u32 p.dst)) := fun W h => by
        obtain ⟨e0, e1, e2, e3⟩ := (HM8.out.below h).cells
        obtain ⟨_, _, _, _, _, _, _, f7, f8, _⟩ := (HX8.out.below h).cells
        exact ⟨e0, e1, e2, e3, f7, f8⟩
      obtain ⟨L, hL⟩ : ∃ L, m.bs.length = L := ⟨_, rfl⟩
      simp only [hL] at HRM HVB
      have HLE := Lib.hid hL
      clear hm hL HM8 HX8 HR8
      go_cut [14, 15] (fun s14 s15 wx => ∃ b4, s14 = .slice (some ⟨b4, 0, none⟩) (20 + L) (20 + L) ∧ s15 = .nilIface ∧ BAt wx b4 (errP p m).bs ∧ Below W8.heap.size W8 wx)
      case first =>
        go_region_held_law (fun W => W.cell? ⟨g7, 0, none⟩ = some (.int .u8 (n1 : Int)) ∧ W.cell? ⟨g7, 1, none⟩ = some (.int .u8 (n2 : Int)) ∧ W.cell? ⟨g7, 2, none⟩ = some (.int .u32 (n3 : Int)) ∧ W.cell? ⟨g7, 3, none⟩ = some (.slice (some ⟨bm, 0, none⟩) G km) ∧ W.cell? ⟨n, 7, none⟩ = some (.int .u32 p.src) ∧ W.cell? ⟨n, 8, none⟩ = some (.int .u32 p.dst))
          (first | assumption | exact KS.out _ (below_drew W8) | exact KS.out _ H1.out.2 | exact KS.out _ H2.out.2)
          (first
            | (go_at_call 6; (with_reducible refine (HRM.out _ (below_drew W8)).mono ?_); rintro e w9 ⟨b9, rfl, _, hy9, hl9⟩; (have H1 := Lib.hid (And.intro hy9 ((below_drew W8).trans hl9))); clear hy9 hl9)
            | (go_at_call 10; (with_reducible refine (HVB.out _ _ H1.out.1).mono ?_); rintro e w10 ⟨b10, rfl, _, hy10, hl10⟩; (have H2 := Lib.hid (And.intro hy10 (below_to H1.out.2 hl10 H1.out.2.size))); clear hy10 hl10))
        all_goals
          go_wp2_with fail
          go_meet
          exact ⟨_, rfl, rfl, H2.out⟩
      obtain ⟨b4, rfl, rfl, hy, hl⟩ := hcut
      have HY9 := Lib.hid hy
      have HB9 := Lib.hid (below_to HB8.out hl HB8.out.size)
      clear hy hl HB8 KS HRM HVB
      generalize wc = W9 at *
      have HLC : Hid ((errP p m).bs.length = 20 + L) := by show _ = _; rw [Ip.bs_len, ← HLE.out]; rfl
      have HRC : Hid (Rd W9 (.slice (some ⟨b4, 0, none⟩) (20 + L) (20 + L)) (errP p m).bs) := by
        have h := HY9.out.rd
        rwa [HLC.out] at h
      have HLX : Hid ((errP p m).bs.length ≤ 1099511627776) := by show _ ≤ _; rw [HLC.out]; have := HML.out; have := HLE.out; omega
      have HEC := Lib.hid (Ms.echo_bs m HMI.out.1.typ)
      rw [HMI.out.2.1] at HEC
      have HTL := Lib.hid (errP_tell p m)
      rw [HEC.out] at HTL
      go_upto_region 12 with fail
      by_cases he : n1 = 8 ∨ n1 = 0
      · have htl : (errP p m).tell = true := by rw [HTL.out]; simpa using he
        have XQ : Hid (Calls Tryd.prog 11 #[.slice (some ⟨b4, 0, none⟩) (20 + L) (20 + L), .int .u8 3, .int .u8 1, .int .u32 0] W9 fun e w' => ∃ b k, e = .returned (.tuple #[.agg #[.int .u8 3, .int .u8 1, .int .u32 0, .slice (some ⟨b, 0, none⟩) (errP p m).beg k], .nilIface]) ∧ W9.heap.size ≤ b ∧ Rd w' (.slice (some ⟨b, 0, none⟩) (errP p m).beg k) ((errP p m).bs.take (errP p m).beg) ∧ Below W9.heap.size W9 w') := by
          have k := iError_ok (errP p m) (errP_in HIP.out m HML.out) (errP_bad p m HML.out) htl b4 (20 + L) 3 1 0 W9 (by rw [HLC.out]; exact HRC.out) HLX.out
          rwa [HLC.out] at k
        generalize (errP p m).beg = G2 at *
        clear htl
        go_wp2_with fail
        refine XQ.out.mono ?_
        rintro e w10 ⟨b10, k10, rfl, _, _, hl⟩
        have hb11 := below_al (Below.refl w10.heap.size w10) (.cells #[.int .u8 3, .int .u8 1, .int .u32 0, .slice (some ⟨b10, 0, none⟩) G2 k10] 25)
        have HB11 := Lib.hid (below_to HB9.out (below_to hl hb11 hl.size) HB9.out.size)
        clear hl hb11 HB9 XQ
        go_upto_region 13 with fail
        generalize w10.alloc (.cells #[.int .u8 3, .int .u8 1, .int .u32 0, .slice (some ⟨b10, 0, none⟩) G2 k10] 25) = W11 at *
        rcases he with he | he
        all_goals
          subst he
          go_wp2_with fail
          refine (code_nil _).mono ?_
          rintro e w12 ⟨rfl, rfl⟩
          go_wp2_with fail
          go_ret
          exact ⟨rfl, HB11.out⟩
      · have htl : (errP p m).tell = false := by rw [HTL.out]; simpa using he
        have XQ := Lib.hid (iError_state (errP p m) (errP_in HIP.out m HML.out) (errP_bad p m HML.out) htl (.slice (some ⟨b4, 0, none⟩) (20 + L) (20 + L)) 3 1 0 W9 HRC.out HLX.out)
        unfold MW at XQ
        have q1 : ((n1 : Int) != 8) = true := by simp; omega
        have q2 : ((n1 : Int) != 0) = true := by simp; omega
        have q3 : ((n1 : Int) == 8) = false := by simp; omega
        have q4 : ((n1 : Int) == 0) = false := by simp; omega
        clear htl he
        go_wp2_with fail
        refine XQ.out.mono ?_
        rintro e w10 ⟨b10, rfl, hc, hl⟩
        have hb11 := below_al (Below.refl w10.heap.size w10) (.cells #[.int .u8 0, .int .u8 0, .int .u32 0, .slice none 0 0] 25)
        have HC11 := Lib.hid (hc.below hb11)
        have HB11 := Lib.hid (below_to HB9.out (below_to hl hb11 hl.size) HB9.out.size)
        clear hc hl hb11 HB9 XQ
        go_upto_region 13 with fail
        generalize w10.alloc (.cells #[.int .u8 0, .int .u8 0, .int .u32 0, .slice none 0 0] 25) = W11 at *
        go_wp2_with fail
        refine (code_any 8 _ _ _ (HG.out.below HB11.out) HC11.out).mono ?_
        rintro e w12 ⟨rfl, hl⟩
        have HB12 := Lib.hid (below_to HB11.out hl HB11.out.size)
        clear hl
        go_wp2_with fail
        go_ret
        exact ⟨rfl, HB12.out⟩
  · have HXB := Lib.hid (vBytes_bad p hbad A0 c0 W2 (by have := HNP.out; omega))
    rw [Ip.val_lit] at HXB
    clear hbad
    go_wp2_with fail
    refine HXB.out.mono ?_
    rintro e w5 ⟨b, rfl, _, hl⟩
    have HB5 := Lib.hid (below_to HB.out hl HB.out.size)
    clear hl HXB HB HX0 d0' d1 d2 d3 d4 d5 d6 d7 d8 d9
    go_wp2_with fail
    go_ret
    exact ⟨rfl, HB5.out⟩
end Go.Proofs.YtlhanaglhkmcfaaDoor
namespace Go.Proofs.YtlhanaglhkmcfaaDoor
open Go Go.ChangeShapes Go.WideShapes Go.RowKit

/-- The contract. -/
def IcmpErrorsDoes : Prop := ∀ (p0 : Ip) (A0 : Option Addr) (c0 : Nat) (n1 : Nat) (n2 : Nat) (n3 : Nat) (w : World), Hdl w → p0.Fit → Rd w (.slice A0 p0.b.length c0) p0.b → c0 ≤ 9223372036854775807 → n1 < 256 → n2 < 256 → n3 < 4294967296 → Calls Tryd.prog 4 #[p0.val (.slice A0 p0.b.length c0), .int .u8 (n1 : Int), .int .u8 (n2 : Int), .int .u32 (n3 : Int)] w fun e w' => e = .returned (.bool true) ∧ Below w.heap.size w w'

set_option maxRecDepth 100000 in
theorem icmpErrors_lifted (hc : IcmpErrorsDoes) (os : Os) (started : os.Started) (H : Type) (enc : TypeId × Value → H) :
    ReturnsInHanded {} Tryd.checked os 4 .any (fun w args => (Rows.icmpErrorsSpec.pre enc Tryd.prog Tryd.f4 [] false w args ∧ laidMetH Tryd.prog laidList w) ∧ sizedMet enc Tryd.prog Tryd.f4 (OpenSpec.ofChange Rows.icmpErrorsSpec) false w args)
      (Rows.icmpErrorsSpec.post enc Tryd.prog Tryd.f4 false true false false) := by
  refine returnsInHanded_of_change_and (C := Tryd.checked) (X := fun w _ => laidMetH Tryd.prog laidList w) (fun _ _ _ hh h => h.of_heap hh) ownGodebug started (by kernel_rfl) Tryd.func4
    (ChangeSpec.witness_at (enc := enc) (C := Tryd.checked) (os := os) (X := fun w _ => laidMetH Tryd.prog laidList w) false (laidWorld os) #[.agg #[.int .u8 0, .int .u16 0, .bool false, .bool false, .int .i64 0, .int .u8 0, .int .u8 0, .int .u32 0, .int .u32 0, .slice none 0 0], .int .u8 0, .int .u8 0, .int .u32 0] 8 rfl (by kernel_rfl) (by kernel_rfl) (by kernel_rfl) (by kernel_rfl) (by kernel_rfl) (laidWorld_met os _)) ?_
  intro W base args ds gs before hval0 hW _ _ hL _
  have hval : ∀ (j : Nat) t v, Tryd.f4.params[j]? = some t → args[j]? = some v → Value.okWide Tryd.prog W .any base t v := hval0
  have hW' := hW
  obtain ⟨p, q, hA0, hV0, rfl, hfz, hnd⟩ := hW
  have hA : DataW.TrodAll enc Tryd.prog W 0 (fun _ => true) true Tryd.f4.params.toList args.toList ds p := hA0
  have hV : DataW.TrodVars enc Tryd.prog W (fun _ => true) [] gs q := hV0
  rw [Tryd.params4] at hA hval
  obtain ⟨v0, vs0, d0, ds0, p0, q0, hargs, rfl, rfl, h0, r0⟩ := trodAll_cons hA
  obtain ⟨v1, vs1, d1, ds1, p1, q1, rfl, rfl, rfl, h1, r1⟩ := trodAll_cons r0
  obtain ⟨v2, vs2, d2, ds2, p2, q2, rfl, rfl, rfl, h2, r2⟩ := trodAll_cons r1
  obtain ⟨v3, vs3, d3, ds3, p3, q3, rfl, rfl, rfl, h3, r3⟩ := trodAll_cons r2
  obtain ⟨rfl, rfl, rfl⟩ := trodAll_nil r3
  obtain rfl : args = #[v0, v1, v2, v3] := by cases args; simpa using hargs
  obtain ⟨rfl, rfl⟩ := trodVars_none hV
  obtain ⟨p0, A0, c0, rfl, b0, e0, a0⟩ := open_ip (hval 0 41 v0 rfl rfl) h0
  obtain ⟨z1, rfl, rfl, rfl, w1⟩ := open_int Tryd.underlying5 (hval 1 5 v1 rfl rfl) h1
  obtain ⟨n1, rfl, b1⟩ := u8n_wf w1
  obtain ⟨z2, rfl, rfl, rfl, w2⟩ := open_int Tryd.underlying5 (hval 2 5 v2 rfl rfl) h2
  obtain ⟨n2, rfl, b2⟩ := u8n_wf w2
  obtain ⟨z3, rfl, rfl, rfl, w3⟩ := open_int Tryd.underlying22 (hval 3 22 v3 rfl rfl) h3
  obtain ⟨n3, rfl, b3⟩ := u32_wf w3
  refine (hc p0 A0 c0 n1 n2 n3 W (hdl_of_laid hL) a0 e0 b0 b1 b2 b3).mono fun e W' ⟨he, hb⟩ => ?_
  subst he
  exact ⟨_, rfl, law_post rfl rfl rfl (by rw [Tryd.params4]; intro t ht; simp at ht; (first | (rcases ht with rfl | rfl | rfl | rfl) | (rcases ht with rfl | rfl | rfl)) <;> (try subst ht) <;> exact ⟨by kernel_rfl, by rw [typesSize]; decide⟩) hW' hb⟩
theorem icmpErrors_row (hc : IcmpErrorsDoes) : Rows.IcmpErrorsSaid :=
  OpenClaim.holds_of_wide 4 Tryd.f4 rfl rfl rfl rfl rfl rfl rfl ⟨rfl, rfl, rfl, rfl, rfl⟩ rfl rfl rfl rfl rfl (by kernel_rfl) Tryd.func4 (by kernel_rfl)
    (of_decide_eq_true (by kernel_rfl)) (by unfold Func.isWrapper; rw [if_neg (of_decide_eq_false (by kernel_rfl))]; exact ⟨rfl, rfl⟩)
    (fun os started H enc _ => icmpErrors_lifted hc os started H enc)
theorem icmpErrors_card (hrow : Rows.IcmpErrorsSaid) : Rows.IcmpErrorsCardSaid :=
  Claim7.holds_tied_plain_at .later [] [.handle] true _ true
    hrow (fun _ h => by cases h) (by kernel_rfl) (fun _ h => by cases h) icmpErrors_row_tie rfl ⟨rfl, rfl⟩ (by kernel_rfl) rfl
    (fun f fn hf hfn => by
      obtain rfl : f = 4 := Option.some.inj ((show Tryd.prog.funcNamed "underpass/underpasslaw07.IcmpErrors" = some 4 by kernel_rfl).symm.trans hf) |>.symm
      obtain rfl : fn = Tryd.f4 := (Option.some.inj (Tryd.func4.symm.trans hfn)).symm
      exact ⟨by kernel_rfl, fun j t ht => by
        rw [Tryd.params4] at ht
        rcases j with _ | _ | _ | _ | j
        · have h3 : t = 41 := by simpa using ht.symm
          subst h3
          exact (show Tryd.prog.wantsStandIn 41 = false by kernel_rfl)
        · have h3 : t = 5 := by simpa using ht.symm
          subst h3
          exact (show Tryd.prog.wantsStandIn 5 = false by kernel_rfl)
        · have h3 : t = 5 := by simpa using ht.symm
          subst h3
          exact (show Tryd.prog.wantsStandIn 5 = false by kernel_rfl)
        · have h3 : t = 22 := by simpa using ht.symm
          subst h3
          exact (show Tryd.prog.wantsStandIn 22 = false by kernel_rfl)
        · simp at ht⟩)
    (by kernel_rfl)
end Go.Proofs.YtlhanaglhkmcfaaDoor
namespace Go.Proofs.YtlhanaglhkmcfaaDoor
theorem icmpErrors_holds : Rows.IcmpErrorsCardSaid := icmpErrors_card (icmpErrors_row icmpErrors_any)
end Go.Proofs.YtlhanaglhkmcfaaDoor
