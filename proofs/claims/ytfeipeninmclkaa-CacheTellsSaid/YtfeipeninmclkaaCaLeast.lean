/-
  What is proved: (*cache.Cache).leastKnown and makeRoom by contract.
  Conditions: none.
-/
import Derived.Test.YtfeipeninmclkaaCaStand
import Derived.Deep.DeepCutAuto
namespace Go.Proofs.Ytfeipeninmclkaa
open Go.RowKit

theorem lst1_mem {acc : Option En} {e b : En} (h : lst1 acc e = some b) : acc = some b ∨ e = b := by
  unfold lst1 at h
  cases acc with
  | none => simp only at h; split at h <;> simp_all
  | some c => simp only at h; split at h <;> simp_all
theorem fold_mem : ∀ (l : List En) (acc : Option En) (b : En), l.foldl lst1 acc = some b → acc = some b ∨ b ∈ l
  | [], _, _, h => .inl h
  | e :: l, acc, b, h => by
    rcases fold_mem l (lst1 acc e) b h with h1 | h1
    · rcases lst1_mem h1 with h2 | h2
      · exact .inl h2
      · exact .inr (by simp [h2])
    · exact .inr (List.mem_cons_of_mem _ h1)
theorem lst_mem {L : List En} {b : En} (h : lst L = some b) : b ∈ L := by
  rcases fold_mem L none b h with h1 | h1
  · cases h1
  · exact h1
theorem take_foldl {L : List En} {k : Nat} {e : En} (h : L[k]? = some e) : (L.take (k + 1)).foldl lst1 none = lst1 ((L.take k).foldl lst1 none) e := by
  rw [List.take_add_one, h, List.foldl_append]
  rfl
def accIp (o : Option En) : Int := match o with | some e => e.ip | none => 0
theorem field_at (kn : Bool) (a b c d e f t tr : Int) (S : Value) (W : World) : (Instr.field 71 (.agg #[.bool kn, .int .u8 a, .int .u8 b, .int .u8 c, .int .u8 d, .int .u8 e, .int .u8 f, .int .u64 t, .int .i64 tr, S]) 2).run Try.prog W = .ok (.int .u64 t) W := by kernel_rfl
def LeastAt (L : List En) (w : World) (e : Ending) (w' : World) : Prop := e = .returned (.tuple #[.int .u32 (accIp (lst L)), .bool (lst L).isSome]) ∧ Below w.heap.size w w'

set_option maxRecDepth 100000 in
set_option maxHeartbeats 4000000 in
theorem least_any (L : List En) (p b : Nat) (F : Nat → Prop) (rep : Rep) (x : Option Int) (w : World) (h : Tab w p b F rep x L) :
    Calls Try.prog 35 #[.pointer (some ⟨p, 0, none⟩)] w (LeastAt L w) := by
  have HT := Lib.hid h
  have X := Lib.hid (rising_any L p b F rep x w h)
  have h32 := h.few
  clear h
  go_enter Try.func35, Try.ntmps35
  go_wp2_with (go_at_call 31; (with_reducible refine X.out.mono ?_); rintro e w2 ⟨A, c, rfl, hc1, hc2, hI, hB⟩; (have HI := Lib.hid hI); (have HB := Lib.hid hB); clear hI hB)
  go_loopw [4, 5, 12] (fun s4 s5 s12 wr => ∃ (k : Nat) (acc : Option En), s4 = .int .u32 (accIp acc) ∧ s5 = .bool acc.isSome ∧ s12 = .int .i64 k ∧ k ≤ L.length ∧ (L.take k).foldl lst1 none = acc ∧ Below w2.heap.size w2 wr) (fun _ _ s12 _ => L.length - (numOf s12).toNat)
  case atStart => exact ⟨0, none, rfl, rfl, rfl, Nat.zero_le _, rfl, Below.refl _ _⟩
  case round =>
    obtain ⟨k, acc, rfl, rfl, rfl, hk, hacc, hBr⟩ := hrel
    have HBr := Lib.hid hBr
    have HAc := Lib.hid hacc
    clear hBr hacc
    by_cases hlt : k < L.length
    · have q1 : decide ((k : Int) < (L.length : Int)) = true := decide_eq_true (by omega)
      obtain ⟨e, he⟩ : ∃ e, L[k]? = some e := ⟨L[k], List.getElem?_eq_getElem hlt⟩
      have hem := List.mem_of_getElem? he
      have HTr := Lib.hid (HT.out.below (below_to HB.out HBr.out HB.out.size))
      obtain ⟨g, rfl, _, hci⟩ := (HI.out.below HBr.out) k e.ip (by simp [he])
      have hl := HTr.out.asked (HTr.out.ok e hem).ip false
      have hp := HTr.out.cell
      have hgot : got L rep e.ip = e.raw (rep e.ip) := by
        unfold got
        rw [look_mem HTr.out.srt hem rfl]
      rw [hgot] at hl
      simp only [Bool.false_eq_true, if_false] at hl
      clear hgot
      obtain ⟨r, hr⟩ : ∃ r, e.raw (rep e.ip) = r := ⟨_, rfl⟩
      rw [hr] at hl
      have HK : Hid (r.kn = e.kn ∧ r.t = e.t) := Lib.hid (by rw [← hr]; exact ⟨rfl, rfl⟩)
      have He := Lib.hid he
      have HM := Lib.hid hem
      clear hr he hem
      have HB6 := Lib.hid ((Below.refl _ wr).alloc (Nat.le_refl _) r.obj)
      have HA := RAt.new wr r
      obtain ⟨kn, ⟨a1, a2, a3, a4, a5, a6⟩, t, tr, sl⟩ := r
      obtain ⟨c0, c1, c2, c3, c4, c5, c6, c7, c8, c9⟩ := HA
      unfold Raw.obj at HB6 c0 c1 c2 c3 c4 c5 c6 c7 c8 c9
      unfold Raw.val at hl
      simp only at HB6 HK hl c0 c1 c2 c3 c4 c5 c6 c7 c8 c9
      have HS1 := Lib.hid (slv_one sl)
      generalize slv sl = S at HB6 hl c0 c1 c2 c3 c4 c5 c6 c7 c8 c9 HS1
      go_upto_region 7 with (refine wpList_store_row rfl 71 (.tmp 8) (.tmp 21) rfl wr.heap.size #[.bool kn, .int .u8 a1, .int .u8 a2, .int .u8 a3, .int .u8 a4, .int .u8 a5, .int .u8 a6, .int .u64 t, .int .i64 tr, S] rfl rfl 71 _ (heap_alloc_new wr _) enSize rfl (enRow_one _ _ _ _ _ _ _ _ _ _ HS1.out) ?_; rw [setRow_alloc])
      try simp only [Act.put]
      have hz : wr.heap.size < (wr.alloc (.cells #[.bool kn, .int .u8 a1, .int .u8 a2, .int .u8 a3, .int .u8 a4, .int .u8 a5, .int .u8 a6, .int .u64 t, .int .i64 tr, S] 71)).heap.size := by simp
      generalize wr.alloc (.cells #[.bool kn, .int .u8 a1, .int .u8 a2, .int .u8 a3, .int .u8 a4, .int .u8 a5, .int .u8 a6, .int .u64 t, .int .i64 tr, S] 71) = w6 at HB6 c0 c1 c2 c3 c4 c5 c6 c7 c8 c9 hz ⊢
      clear hl hp c1 c2 c3 c4 c5 c6 c8 c9 hci
      have HT6 := Lib.hid (HTr.out.below HB6.out)
      have HW6 := Lib.hid (below_to HBr.out HB6.out HBr.out.size)
      have fin : Hid (∀ n, Below w2.heap.size w2 (w6.drewN n)) := Lib.hid (fun n => below_dN HW6.out n)
      have Hz := Lib.hid hz
      have hsucc : Hid ((L.take (k + 1)).foldl lst1 none = lst1 acc e) := Lib.hid (by rw [take_foldl He.out, HAc.out])
      cases kn with
      | false =>
        have hno : Hid (lst1 acc e = acc) := Lib.hid (by
          unfold lst1
          rw [← HK.out.1]
          cases acc <;> simp)
        go_quiet (fail)
        go_wp2_with fail
        go_roundw
        case rel => exact ⟨k + 1, acc, rfl, rfl, by go_num, by omega, by rw [hsucc.out, hno.out], fin.out nq⟩
        case measure => simp [numOf]; omega
      | true =>
        have hek : e.kn = true := HK.out.1.symm
        cases acc with
        | none =>
          have hyes : Hid (lst1 none e = some e) := Lib.hid (by unfold lst1; rw [hek]; rfl)
          clear hek
          go_quiet (fail)
          go_wp2_with fail
          go_roundw
          case rel => exact ⟨k + 1, some e, rfl, rfl, by go_num, by omega, by rw [hsucc.out, hyes.out], fin.out nq⟩
          case measure => simp [numOf]; omega
        | some v =>
          have hvm : v ∈ L := by
            rcases fold_mem (L.take k) none v HAc.out with h | h
            · cases h
            · exact List.mem_of_mem_take h
          have hgot : got L rep v.ip = v.raw (rep v.ip) := by
            unfold got
            rw [look_mem HT6.out.srt hvm rfl]
          have hl2 : ∀ n, (Instr.lookup 63 (.map (some b)) (.int .u32 v.ip) false).run Try.prog (w6.drewN n) = .ok (v.raw (rep v.ip)).val (w6.drewN n) := fun n => by
            have h := (HT6.out.drewN n).asked (HT6.out.ok v hvm).ip false
            rw [hgot] at h
            simpa using h
          have hp6 := HT6.out.cell
          obtain ⟨r2, hr2⟩ : ∃ r, v.raw (rep v.ip) = r := ⟨_, rfl⟩
          rw [hr2] at hl2
          have HV : Hid (r2.t = v.t) := Lib.hid (by rw [← hr2]; rfl)
          clear hr2 hgot hvm
          obtain ⟨kn2, ⟨b1, b2, b3, b4, b5, b6⟩, t2, tr2, sl2⟩ := r2
          unfold Raw.val at hl2
          simp only at hl2 HV
          generalize slv sl2 = S2 at hl2
          have hfd := fun W => field_at kn2 b1 b2 b3 b4 b5 b6 t2 tr2 S2 W
          obtain ⟨vi, hvi⟩ : ∃ i, v.ip = i := ⟨_, rfl⟩
          have HVI := Lib.hid hvi
          rw [show accIp (some v) = vi from hvi, show (some v).isSome = true from rfl]
          rw [hvi] at hl2
          clear hvi
          by_cases hlt2 : t < t2
          · have q2 : decide (t < t2) = true := decide_eq_true hlt2
            have hyes : Hid (lst1 (some v) e = some e) := Lib.hid (by
              unfold lst1
              have h1 := HK.out.2
              have h2 := HV.out
              simp only
              rw [if_pos (by simp [hek]; omega)])
            clear hek hlt2
            go_quiet (fail)
            go_wp2_with fail
            go_roundw
            case rel => exact ⟨k + 1, some e, rfl, rfl, by go_num, by omega, by rw [hsucc.out, hyes.out], fin.out nq⟩
            case measure => simp [numOf]; omega
          · have q2 : decide (t < t2) = false := decide_eq_false hlt2
            have hno : Hid (lst1 (some v) e = some v) := Lib.hid (by
              unfold lst1
              have h1 := HK.out.2
              have h2 := HV.out
              simp only
              rw [if_neg (by simp [hek]; omega)])
            clear hek hlt2
            go_quiet (fail)
            go_wp2_with fail
            go_roundw
            case rel => exact ⟨k + 1, some v, by rw [← HVI.out]; rfl, rfl, by go_num, by omega, by rw [hsucc.out, hno.out], fin.out nq⟩
            case measure => simp [numOf]; omega
    · have q1 : decide ((k : Int) < (L.length : Int)) = false := decide_eq_false (by omega)
      have hkl : k = L.length := by omega
      have Hkl := Lib.hid hkl
      clear hkl
      go_wp2_with fail
      go_ret2
      refine ⟨?_, below_to HB.out HBr.out HB.out.size⟩
      have h := HAc.out
      rw [Hkl.out, List.take_length] at h
      unfold lst
      rw [h]
      rfl
end Go.Proofs.Ytfeipeninmclkaa
