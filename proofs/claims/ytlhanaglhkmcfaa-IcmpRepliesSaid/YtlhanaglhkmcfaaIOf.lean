/-
  What is proved: 'of' of the laws of layer 7 by contract; messages of one text are the same; a message's bytes cut at two thousand.
  Conditions: the message's numbers fit their types.
-/
import Derived.Test.YtlhanaglhkmcfaaILift
import Derived.Test.YtlhanaglhkmcfaaITurn
namespace Go.Proofs.Ytlhanaglhkmcfaa
open Go.RowKit

theorem refMsSize : (Try.prog.info? 29).map (·.size) = some 4 := by kernel_rfl
def refMsZero : Array Value := #[.int .u32 0, .int .u32 0, .int .u32 0, .string ⟨#[]⟩]
theorem iu32_fits (n : Nat) (h : n < 65536) : IntKind.u32.wrap (n : Int) = (n : Int) := by
  have h1 : IntKind.u32.bits = 32 := rfl
  have h2 : IntKind.u32.signed = false := rfl
  simp [IntKind.wrap, h1, h2]
  omega
set_option maxRecDepth 100000 in
set_option maxHeartbeats 2000000 in
theorem iof_any (m : Ms) (hm : m.In) (A : Option Addr) (cap : Nat) (w : World) (hr : Rd w (.slice A m.b.length cap) m.b) :
    Calls Try.prog 8 #[.agg #[.int .u8 m.typ, .int .u8 m.code, .int .u32 m.rest, .slice A m.b.length cap]] w fun e w' => e = .returned (.agg #[.int .u32 m.typ, .int .u32 m.code, .int .u32 m.rest, .string (txt m.b)]) ∧ Below w.heap.size w w' := by
  have f1 := iu32_fits m.typ (by have := hm.typ; omega)
  have f2 := iu32_fits m.code (by have := hm.code; omega)
  have HX := Lib.hid ((MsAt.new w m (.slice A m.b.length cap)).below (below_al (Below.refl _ _) (.cells refMsZero 29)))
  have HZ : Hid (((w.alloc (m.obj (.slice A m.b.length cap))).alloc (.cells refMsZero 29)).heap[w.heap.size + 1]? = some (.cells refMsZero 29)) := by
    have h := heap_alloc_new (w.alloc (m.obj (.slice A m.b.length cap))) (.cells refMsZero 29)
    rw [World.size_alloc] at h
    exact h
  have hb := below_al (below_al (Below.refl w.heap.size w) (m.obj (.slice A m.b.length cap))) (.cells refMsZero 29)
  have cv := convert_rd (hr.below hb)
  have HB := Lib.hid hb
  clear hb hr hm
  generalize hW : (w.alloc (m.obj (.slice A m.b.length cap))).alloc (.cells refMsZero 29) = W at *
  unfold Ms.obj refMsZero at hW
  have HWW := Lib.hid hW
  clear hW
  obtain ⟨c0, c1, c2, c3⟩ := HX.out.cells
  generalize txt m.b = tb at *
  go_enter Try.func8, Try.ntmps8
  go_upto_region 1 with fail
  rw [HWW.out]
  clear HWW
  go_wp2_with (refine wpList_store_row rfl 29 (.tmp 2) (.tmp 14) rfl (w.heap.size + 1) #[.int .u32 m.typ, .int .u32 m.code, .int .u32 m.rest, .string tb] rfl rfl 29 _ HZ.out refMsSize rfl (by simp [Value.oneCell']) ?_)
  (try simp only [Exit.inBlock, Exit.then])
  refine bodyPost_ret (results_cell_row rfl _ _ (w.heap.size + 1) _ #[.int .u32 m.typ, .int .u32 m.code, .int .u32 m.rest, .string tb] (0, 0) _ rfl (setRow_heap _ _ _ _ _ _ HZ.out) Try.underlying29 rfl refMsSize) rfl ?_
  exact ⟨rfl, ((Fr.of_below (p := fun _ => False) HB.out).row (Nat.le_succ _) _).below (Nat.le_refl _) (fun _ h => h.elim)⟩
theorem itxt_list (a : List UInt8) : (txt a).toList = a := ByteArray.toList_mk a
/-- '==' on the document's messages as a Boolean. -/
def msB (d e : Ms) : Bool := decide ((d.typ : Int) = e.typ) && (decide ((d.code : Int) = e.code) && (decide ((d.rest : Int) = e.rest) && (decide ((txt d.b).toList = (txt e.b).toList) && true)))
theorem msB_iff (d e : Ms) : msB d e = true ↔ d = e := by
  obtain ⟨a0, a1, a2, a3⟩ := d
  obtain ⟨b0, b1, b2, b3⟩ := e
  have en : ∀ a b : Nat, (a : Int) = b ↔ a = b := fun _ _ => by omega
  simp [msB, en, itxt_list]
theorem msB_same (d : Ms) : msB d d = true := (msB_iff d d).2 rfl
theorem iite_ok {c : Prop} [Decidable c] (b : Bool) (w : World) : (if c then (Result.ok b w : Result Bool) else Result.ok false w) = Result.ok (decide c && b) w := by
  by_cases h : c <;> simp [h]
set_option maxRecDepth 100000 in
set_option maxHeartbeats 2000000 in
theorem refMs_eq (a0 a1 a2 b0 b1 b2 : Int) (a3 b3 : ByteArray) (w : World) : (Op.equalIn 10000 29 (.agg #[.int .u32 a0, .int .u32 a1, .int .u32 a2, .string a3]) (.agg #[.int .u32 b0, .int .u32 b1, .int .u32 b2, .string b3])).run Try.prog w =
    .ok (decide (a0 = b0) && (decide (a1 = b1) && (decide (a2 = b2) && (decide (a3.toList = b3.toList) && true)))) w := by
  have u1 := Try.underlying22
  have u4 := Try.underlying9
  have a1' := Try.isAgg22
  have a4' := Try.isAgg9
  have z1 := Try.sizeOf22
  have z4 := Try.sizeOf9
  have hS : Try.prog.underlying 29 = some (.struct (Try.prog.fieldsOf 29)) := by kernel_rfl
  have hp : Try.prog.stoodInHeld 29 = false := by kernel_rfl
  rw [show (10000 : Nat) = 9999 + 1 from rfl, run_equalIn_agg w 9999 29 _ _ hS hp]
  simp only [Program.fieldsOf, Try.underlying29]
  go_simp
  simp only [iite_ok, Bool.and_true]
theorem refMs_eqB (d e : Ms) (w : World) : (Op.equalIn 10000 29 (.agg #[.int .u32 d.typ, .int .u32 d.code, .int .u32 d.rest, .string (txt d.b)]) (.agg #[.int .u32 e.typ, .int .u32 e.code, .int .u32 e.rest, .string (txt e.b)])).run Try.prog w = .ok (msB d e) w := refMs_eq _ _ _ _ _ _ _ _ w
theorem ibyte_inj {a b : Nat} (ha : a < 256) (hb : b < 256) (h : UInt8.ofNat a = UInt8.ofNat b) : a = b := by
  have e1 : (UInt8.ofNat a).toNat = a := by rw [ofNat_lt]; omega
  have e2 : (UInt8.ofNat b).toNat = b := by rw [ofNat_lt]; omega
  rw [← e1, h, e2]
theorem ibe2_inj {a b : Nat} (ha : a < 65536) (hb : b < 65536) (h : be2 a = be2 b) : a = b := by
  unfold be2 at h
  injection h with h1 h2
  injection h2 with h2 _
  have e1 := be2_sum a ha
  have e2 := be2_sum b hb
  rw [h1, h2] at e1
  omega
theorem be4_sum (n : Nat) (hn : n < 4294967296) : (((UInt8.ofNat (n / 16777216)).toNat * 256 + (UInt8.ofNat (n / 65536)).toNat) * 256 + (UInt8.ofNat (n / 256)).toNat) * 256 + (UInt8.ofNat n).toNat = n := by rw [ofNat_lt, ofNat_lt, ofNat_lt, ofNat_lt]; omega
theorem ibe4_inj {a b : Nat} (ha : a < 4294967296) (hb : b < 4294967296) (h : be4 a = be4 b) : a = b := by
  unfold be4 at h
  injection h with h1 h2
  injection h2 with h2 h3
  injection h3 with h3 h4
  injection h4 with h4 _
  have e1 := be4_sum a ha
  have e2 := be4_sum b hb
  rw [h1, h2, h3, h4] at e1
  omega
set_option maxRecDepth 100000 in
theorem Ms.bs_eq {d e : Ms} (hd : d.In) (he : e.In) : d.bs = e.bs ↔ d = e := by
  constructor
  · intro h
    unfold Ms.bs hi8 at h
    simp only [List.append_assoc] at h
    obtain ⟨h1, h⟩ := List.append_inj h rfl
    obtain ⟨h2, h⟩ := List.append_inj h rfl
    obtain ⟨h3, h⟩ := List.append_inj h rfl
    obtain ⟨h4, h5⟩ := List.append_inj h rfl
    have k1 := ibyte_inj hd.typ he.typ (List.cons.inj h1).1
    have k2 := ibyte_inj hd.code he.code (List.cons.inj h2).1
    have k4 := ibe4_inj hd.rest he.rest h4
    obtain ⟨a0, a1, a2, a3⟩ := d
    obtain ⟨b0, b1, b2, b3⟩ := e
    simp only [Ms.mk.injEq]
    exact ⟨k1, k2, k4, h5⟩
  · rintro rfl
    rfl
theorem Ms.bs_same {d e : Ms} (hd : d.In) (he : e.In) : ((txt d.bs).toList == (txt e.bs).toList) = msB d e := by
  rw [itxt_list, itxt_list]
  by_cases h : d = e
  · subst h
    rw [msB_same]
    simp
  · have h1 : msB d e = false := by
      rw [← Bool.not_eq_true, msB_iff]
      exact h
    rw [h1, beq_eq_false_iff_ne]
    exact fun hh => h ((Ms.bs_eq hd he).1 hh)
/-- A message cut at two thousand bytes. -/
def Ms.few (d : Ms) : Ms := { d with b := d.b.take 2000 }
theorem Ms.few_len (d : Ms) : d.few.b.length = min d.b.length 2000 := by show (d.b.take 2000).length = _; rw [List.length_take]; omega
theorem Ms.few_in {d : Ms} (h : d.Fit) : d.few.In := ⟨h.typ, h.code, h.rest, by rw [d.few_len]; omega⟩
theorem Ms.few_n (d : Ms) : d.few.b.length ≤ 2000 := by have := d.few_len; omega
theorem Ms.few_rd {d : Ms} {A : Option Addr} {cap : Nat} {W : World} (h : Rd W (.slice A d.b.length cap) d.b) : Rd W (.slice A d.few.b.length cap) d.few.b := front_any h 2000
theorem Ms.few_cap {d : Ms} {A : Option Addr} {cap : Nat} {W : World} (h : Rd W (.slice A d.b.length cap) d.b) : d.few.b.length ≤ cap := by
  obtain ⟨A', c', e, hc, _⟩ := h
  simp only [Value.slice.injEq] at e
  rw [d.few_len, e.2.2]
  omega
end Go.Proofs.Ytlhanaglhkmcfaa
