/-
  What is proved: 'of' of the laws of layer 6 by contract; a datagram's bytes cut at three thousand.
  Conditions: the datagram's numbers fit their types.
-/
import Derived.Test.YtikcnlcpbifobaaDoorUArith
import Derived.Test.YtikcnlcpbifobaaDoorULift
namespace Go.Proofs.YtikcnlcpbifobaaDoor
open Go.RowKit

theorem refDgSize : (Tryd.prog.info? 34).map (·.size) = some 4 := by kernel_rfl
def refDgRow (d : Dg) : Array Value := #[.int .u32 d.src, .int .u32 d.dst, .bool d.plain, .string (txt d.b)]
def refDgZero : Array Value := #[.int .u32 0, .int .u32 0, .bool false, .string ⟨#[]⟩]
theorem u32_fits (n : Nat) (h : n < 65536) : IntKind.u32.wrap (n : Int) = (n : Int) := by
  have h1 : IntKind.u32.bits = 32 := rfl
  have h2 : IntKind.u32.signed = false := rfl
  simp [IntKind.wrap, h1, h2]
  omega
set_option maxRecDepth 100000 in
set_option maxHeartbeats 2000000 in
theorem uof_any (d : Dg) (hd : d.In) (A : Option Addr) (cap : Nat) (w : World) (hr : Rd w (.slice A d.b.length cap) d.b) :
    Calls Tryd.prog 12 #[.agg #[.int .u16 d.src, .int .u16 d.dst, .bool d.plain, .slice A d.b.length cap]] w fun e w' => e = .returned (.agg #[.int .u32 d.src, .int .u32 d.dst, .bool d.plain, .string (txt d.b)]) ∧ Below w.heap.size w w' := by
  have f1 := u32_fits d.src hd.src
  have f2 := u32_fits d.dst hd.dst
  have HX := Lib.hid ((DgAt.new w d (.slice A d.b.length cap)).below (below_al (Below.refl _ _) (.cells refDgZero 34)))
  have HZ : Hid (((w.alloc (d.obj (.slice A d.b.length cap))).alloc (.cells refDgZero 34)).heap[w.heap.size + 1]? = some (.cells refDgZero 34)) := by
    have h := heap_alloc_new (w.alloc (d.obj (.slice A d.b.length cap))) (.cells refDgZero 34)
    rw [World.size_alloc] at h
    exact h
  have hb := below_al (below_al (Below.refl w.heap.size w) (d.obj (.slice A d.b.length cap))) (.cells refDgZero 34)
  have cv := convert_rd (hr.below hb)
  have HB := Lib.hid hb
  clear hb hr hd
  generalize hW : (w.alloc (d.obj (.slice A d.b.length cap))).alloc (.cells refDgZero 34) = W at *
  unfold Dg.obj refDgZero at hW
  have HWW := Lib.hid hW
  clear hW
  obtain ⟨c0, c1, c2, c3⟩ := HX.out.cells
  generalize txt d.b = tb at *
  go_enter Tryd.func12, Tryd.ntmps12
  go_upto_region 1 with fail
  rw [HWW.out]
  clear HWW
  go_wp2_with (refine wpList_store_row rfl 34 (.tmp 2) (.tmp 14) rfl (w.heap.size + 1) #[.int .u32 d.src, .int .u32 d.dst, .bool d.plain, .string tb] rfl rfl 34 _ HZ.out refDgSize rfl (by simp [Value.oneCell']) ?_)
  (try simp only [Exit.inBlock, Exit.then])
  refine bodyPost_ret (results_cell_row rfl _ _ (w.heap.size + 1) _ #[.int .u32 d.src, .int .u32 d.dst, .bool d.plain, .string tb] (0, 0) _ rfl (setRow_heap _ _ _ _ _ _ HZ.out) Tryd.underlying34 rfl refDgSize) rfl ?_
  exact ⟨rfl, ((Fr.of_below (p := fun _ => False) HB.out).row (Nat.le_succ _) _).below (Nat.le_refl _) (fun _ h => h.elim)⟩
theorem utxt_list (a : List UInt8) : (txt a).toList = a := ByteArray.toList_mk a
/-- '==' on the document's datagrams as a Boolean. -/
def dgB (d e : Dg) : Bool := decide ((d.src : Int) = e.src) && (decide ((d.dst : Int) = e.dst) && (decide (d.plain = e.plain) && (decide ((txt d.b).toList = (txt e.b).toList) && true)))
theorem dgB_iff (d e : Dg) : dgB d e = true ↔ d = e := by
  obtain ⟨a0, a1, a2, a3⟩ := d
  obtain ⟨b0, b1, b2, b3⟩ := e
  have en : ∀ a b : Nat, (a : Int) = b ↔ a = b := fun _ _ => by omega
  simp [dgB, en, utxt_list]
theorem dgB_same (d : Dg) : dgB d d = true := (dgB_iff d d).2 rfl
theorem uite_ok {c : Prop} [Decidable c] (b : Bool) (w : World) : (if c then (Result.ok b w : Result Bool) else Result.ok false w) = Result.ok (decide c && b) w := by
  by_cases h : c <;> simp [h]
set_option maxRecDepth 100000 in
set_option maxHeartbeats 2000000 in
theorem refDg_eq (a0 a1 b0 b1 : Int) (a2 b2 : Bool) (a3 b3 : ByteArray) (w : World) : (Op.equalIn 10000 34 (.agg #[.int .u32 a0, .int .u32 a1, .bool a2, .string a3]) (.agg #[.int .u32 b0, .int .u32 b1, .bool b2, .string b3])).run Tryd.prog w =
    .ok (decide (a0 = b0) && (decide (a1 = b1) && (decide (a2 = b2) && (decide (a3.toList = b3.toList) && true)))) w := by
  have u1 := Tryd.underlying26
  have u2 := Tryd.underlying4
  have u4 := Tryd.underlying9
  have a1' := Tryd.isAgg26
  have a2' := Tryd.isAgg4
  have a4' := Tryd.isAgg9
  have z1 := Tryd.sizeOf26
  have z2 := Tryd.sizeOf4
  have z4 := Tryd.sizeOf9
  have hS : Tryd.prog.underlying 34 = some (.struct (Tryd.prog.fieldsOf 34)) := by kernel_rfl
  have hp : Tryd.prog.stoodInHeld 34 = false := by kernel_rfl
  rw [show (10000 : Nat) = 9999 + 1 from rfl, run_equalIn_agg w 9999 34 _ _ hS hp]
  simp only [Program.fieldsOf, Tryd.underlying34]
  go_simp
  simp only [uite_ok, Bool.and_true]
theorem refDg_eqB (d e : Dg) (w : World) : (Op.equalIn 10000 34 (.agg #[.int .u32 d.src, .int .u32 d.dst, .bool d.plain, .string (txt d.b)]) (.agg #[.int .u32 e.src, .int .u32 e.dst, .bool e.plain, .string (txt e.b)])).run Tryd.prog w = .ok (dgB d e) w := refDg_eq _ _ _ _ _ _ _ _ w
theorem ube2_inj {a b : Nat} (ha : a < 65536) (hb : b < 65536) (h : be2 a = be2 b) : a = b := by
  unfold be2 at h
  injection h with h1 h2
  injection h2 with h2 _
  have e1 := ube2_sum a ha
  have e2 := ube2_sum b hb
  rw [h1, h2] at e1
  omega
theorem bs_eq {d e : Dg} (hd : d.In) (he : e.In) (hn : d.n < 65536) (hm : e.n < 65536) (s t : Nat) : d.bs s t = e.bs s t ↔ d = e := by
  constructor
  · intro h
    unfold Dg.bs hd8 at h
    simp only [List.append_assoc] at h
    obtain ⟨h1, h⟩ := List.append_inj h rfl
    obtain ⟨h2, h⟩ := List.append_inj h rfl
    obtain ⟨h3, h⟩ := List.append_inj h rfl
    obtain ⟨h4, h5⟩ := List.append_inj h rfl
    have k1 := ube2_inj hd.src he.src h1
    have k2 := ube2_inj hd.dst he.dst h2
    have k4 := ube2_inj (d.sum_lt s t) (e.sum_lt s t) h4
    have k5 : d.plain = e.plain := by
      have p1 := @Dg.sum_zero d s t
      have p2 := @Dg.sum_zero e s t
      rw [k4] at p1
      have p3 : d.plain = true ↔ e.plain = true := p1.symm.trans p2
      revert p3
      cases d.plain <;> cases e.plain <;> simp
    obtain ⟨a0, a1, a2, a3⟩ := d
    obtain ⟨b0, b1, b2, b3⟩ := e
    simp only [Dg.mk.injEq]
    exact ⟨k1, k2, k5, h5⟩
  · rintro rfl
    rfl
theorem bs_same {d e : Dg} (hd : d.In) (he : e.In) (hn : d.n < 65536) (hm : e.n < 65536) (s t : Nat) : ((txt (d.bs s t)).toList == (txt (e.bs s t)).toList) = dgB d e := by
  rw [utxt_list, utxt_list]
  by_cases h : d = e
  · subst h
    rw [dgB_same]
    simp
  · have h1 : dgB d e = false := by
      rw [← Bool.not_eq_true, dgB_iff]
      exact h
    rw [h1, beq_eq_false_iff_ne]
    exact fun hh => h ((bs_eq hd he hn hm s t).1 hh)
/-- A datagram cut at three thousand bytes. -/
def Dg.few (d : Dg) : Dg := { d with b := d.b.take 3000 }
theorem Dg.few_len (d : Dg) : d.few.b.length = min d.b.length 3000 := by show (d.b.take 3000).length = _; rw [List.length_take]; omega
theorem Dg.few_in {d : Dg} (h : d.Fit) : d.few.In := ⟨h.src, h.dst, by rw [d.few_len]; omega⟩
theorem Dg.few_n (d : Dg) : d.few.n ≤ 3008 := by have := d.few_len; show 8 + _ ≤ _; omega
theorem Dg.few_rd {d : Dg} {A : Option Addr} {cap : Nat} {W : World} (h : Rd W (.slice A d.b.length cap) d.b) : Rd W (.slice A d.few.b.length cap) d.few.b := by
  have h1 := h.frontAt (K := d.few.b.length) (by rw [d.few_len]; omega)
  have e : d.b.take d.few.b.length = d.few.b := by
    show d.b.take (d.b.take 3000).length = d.b.take 3000
    rw [List.length_take]
    by_cases hl : d.b.length ≤ 3000
    · rw [Nat.min_eq_right hl, List.take_of_length_le (Nat.le_refl _), List.take_of_length_le hl]
    · rw [Nat.min_eq_left (by omega)]
  rwa [e] at h1
theorem Dg.few_cap {d : Dg} {A : Option Addr} {cap : Nat} {W : World} (h : Rd W (.slice A d.b.length cap) d.b) : d.few.b.length ≤ cap := by
  obtain ⟨A', c', e, hc, _⟩ := h
  simp only [Value.slice.injEq] at e
  rw [d.few_len, e.2.2]
  omega
end Go.Proofs.YtikcnlcpbifobaaDoor
