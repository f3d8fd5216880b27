/-
  What is proved: the document's answer for layer 2 (underpassref02) by contract: Sum, Update, Pseudo (and Text of layer 1, of two and four bytes).
  Conditions: texts of fewer than 2^40 bytes.
-/
import Derived.Test.YtjnhfabgdegngaaDoorSRow
namespace Go.Proofs.YtjnhfabgdegngaaDoor
open Go.RowKit

theorem convert_byte (W : World) (b : UInt8) (y : Int) (hy : y = (b.toNat : Int)) : (convert 25 9 (.slice (some ⟨W.heap.size, 0, none⟩) 1 1)).run Tryd.prog (W.alloc (.cells #[.int .u8 y] 5)) = .ok (.string (txt [b])) (W.alloc (.cells #[.int .u8 y] 5)) := by
  subst hy
  exact convert_rd (Rd.of_obj (bytesObj_new W [b]) (Nat.le_refl _))

theorem drewN_two (w : World) (m n : Nat) : (w.drewN m).drewN n = w.drewN (m + n) := by unfold World.drewN; simp [Nat.add_assoc]
theorem txt_index (ys : List UInt8) (i : Nat) (x : UInt8) (hx : ys[i]? = some x) (z : Int) (hz : z = (i : Int)) (W : World) : (Instr.index 9 (.string (txt ys)) (.int .i64 z)).run Tryd.prog W = .ok (.int .u8 (x.toNat : Int)) W := by
  subst hz
  have hl : i < ys.length := (List.getElem?_eq_some_iff.1 hx).1
  rw [run_index_string W 9 (txt ys) .i64 (i : Int) Tryd.underlying9, dif_pos ⟨by omega, by rw [txt_size]; omega⟩]
  have e : (txt ys)[(i : Int).toNat]'(by rw [txt_size]; omega) = x := by
    rw [List.getElem?_eq_getElem hl] at hx
    exact Option.some.inj hx
  rw [e]
theorem refFold_any (n : Nat) (hn : n < 4611686018427387904) (w : World) : Calls Tryd.prog 40 #[.int .i64 (n : Int)] w fun e w' => e = .returned (.int .u16 ((fold n : Nat) : Int)) ∧ w = w' := by
  go_enter Tryd.func40, Tryd.ntmps40
  go_wp2_with fail
  go_loopw [0] (fun v wr => ∃ m : Nat, v = .int .i64 (m : Int) ∧ m < 4611686018427387904 ∧ fold m = fold n ∧ w = wr) (fun v _ => (intOf v).toNat)
  case atStart => exact ⟨n, rfl, hn, rfl, rfl⟩
  case round =>
    obtain ⟨m, rfl, hm, hf, rfl⟩ := hrel
    by_cases h : (65535 : Int) < (m : Int)
    · go_wp2_with fail
      go_roundw
      case rel => exact ⟨m % 65536 + m / 65536, by go_num, by omega, by rw [fold_step]; exact hf, trivial⟩
      case measure => simp only [intOf]; omega
    · go_wp2_with fail
      go_ret
      have hx : fold n = m := by rw [← hf, fold_small (by omega)]
      exact ⟨by rw [hx]; rfl, rfl⟩
theorem refSum_any (bs : List UInt8) (hn : bs.length ≤ 1099511627776) (w : World) :
    Calls Tryd.prog 22 #[.string (txt bs)] w fun e w' => e = .returned (.int .u16 ((ck bs : Nat) : Int)) ∧ ∃ m, w' = w.drewN m := by
  have hz := txt_size bs
  go_enter Tryd.func22, Tryd.ntmps22
  go_upto_if 8 with (fail)
  go_cut [0] (fun v wc => v = .string (txt (even bs)) ∧ w = wc)
  case first =>
    by_cases hpar : bs.length % 2 = 1
    · have q : ((bs.length : Int) % 2 == 1) = true := by rw [beq_iff_eq]; omega
      have he : txt bs ++ ⟨#[0]⟩ = txt (even bs) := by rw [show (⟨#[0]⟩ : ByteArray) = txt [0] from rfl, txt_append]; unfold even; rw [if_pos hpar]
      go_wp2_with fail
      go_meet
      case rel => exact ⟨by rw [← he], rfl⟩
    · have q : ((bs.length : Int) % 2 == 1) = false := by rw [beq_eq_false_iff_ne]; omega
      have he : bs = even bs := by unfold even; rw [if_neg hpar]
      go_wp2_with fail
      go_meet
      case rel => exact ⟨by rw [← he], rfl⟩
  case rest =>
    obtain ⟨rfl, rfl⟩ := hcut
    have hLe : (even bs).length % 2 = 0 := even_len _
    have hL2 : (even bs).length ≤ 1099511627776 := even_le hn (by omega)
    have hw : Hid (wsum true (even bs) = wsum true bs) := by
      show _ = _
      unfold even
      split
      · rw [wsum_append]; unfold par; split <;> simp [wsum]
      · rfl
    generalize even bs = ys at *
    have hy := txt_size ys
    clear hz
    go_wp2_with fail
    go_loopw [3, 4] (fun n i wr => ∃ k m : Nat, k ≤ ys.length ∧ k % 2 = 0 ∧ i = .int .i64 (k : Int) ∧ n = .int .i64 ((wsum true (ys.take k) : Nat) : Int) ∧ wr = w.drewN m) (fun _ i _ => ys.length - (intOf i).toNat)
    case atStart => exact ⟨0, 0, by omega, rfl, rfl, rfl, rfl⟩
    case round =>
      obtain ⟨k, m, hk, hke, rfl, rfl, rfl⟩ := hrel
      have hle := wsum_le true ys
      by_cases hlt : k < ys.length
      · obtain ⟨x, hx⟩ : ∃ x, ys[k]? = some x := ⟨ys[k], List.getElem?_eq_getElem _⟩
        obtain ⟨y, hy'⟩ : ∃ y, ys[k + 1]? = some y := ⟨ys[k + 1]'(by omega), List.getElem?_eq_getElem _⟩
        have i1 := txt_index ys k x hx (k : Int) rfl
        have i2 := txt_index ys (k + 1) y hy' ((k : Int) + 1) (by omega)
        have hs : wsum true (ys.take (k + 2)) = wsum true (ys.take k) + (x.toNat * 256 + y.toNat) := by
          rw [show k + 2 = k + 1 + 1 from rfl, List.take_add_one, List.take_add_one, hx, hy', List.append_assoc, wsum_append, List.length_take, Nat.min_eq_left (by omega)]
          unfold par
          rw [if_pos hke]
          simp [wsum]
        have hs2 : wsum true (ys.take (k + 2)) ≤ wsum true ys := by
          conv => rhs; rw [← List.take_append_drop (k + 2) ys, wsum_append]
          omega
        have HS := Lib.hid hs
        generalize wsum true (ys.take k) = T at *
        have hT : T + (x.toNat * 256 + y.toNat) ≤ 65280 * 1099511627776 := by omega
        have hxl := x.toNat_lt
        have hyl := y.toNat_lt
        clear hs hs2 hle hx hy'
        go_wp2_with fail
        go_quiet (fail)
        rw [drewN_two]
        go_wp2_with fail
        exact ⟨⟨k + 2, m + nq, by omega, by omega, by go_num, by rw [HS.out]; go_num, rfl⟩, by simp [intOf]; omega⟩
      · have hkL : k = ys.length := by omega
        have hke' : wsum true (ys.take k) = wsum true bs := by rw [hkL, List.take_length, hw.out]
        rw [hke']
        have hf := fold_le (wsum true bs)
        have hck : Hid ((ck bs : Nat) = 65535 - fold (wsum true bs)) := by show _ = _; rfl
        have hwl := wsum_le true bs
        clear hw hle
        go_wp2_with fail
        refine (refFold_any _ (by omega) _).mono ?_
        rintro e w' ⟨rfl, rfl⟩
        go_wp2_with fail
        go_ret
        exact ⟨by rw [hck.out]; go_num, _, rfl⟩
/-- The lowest sixteen bits of n, whatever n is. -/
theorem low_any (n : Int) : ∃ m : Nat, m < 65536 ∧ (IntKind.u64.wrap n).tmod 65536 % 4294967296 = (m : Int) ∧ (m : Int) = n % 65536 := by
  refine ⟨(n % 65536).toNat, by omega, ?_, by omega⟩
  rw [IntKind.wrap_u64, Int.tmod_eq_emod_of_nonneg (by omega)]
  omega
theorem psd_parts (s d p m : Nat) (n : Int) (hp : p < 256) (hm : (m : Int) = n % 65536) : be4 s ++ be4 d ++ be2 p ++ be2 m = psd s d p n := by
  have h1 : UInt8.ofNat (p / 256) = 0 := by rw [Nat.div_eq_of_lt hp]; rfl
  have h2 : UInt8.ofNat (m / 256) = b8i (n / 256) := by
    rw [← UInt8.toNat_inj]
    have := b8i_toNat (n / 256)
    rw [ofNat_lt]
    omega
  have h3 : UInt8.ofNat m = b8i n := by
    rw [← UInt8.toNat_inj]
    have := b8i_toNat n
    rw [ofNat_lt]
    omega
  unfold psd be2
  rw [h1, h2, h3]
  simp
end Go.Proofs.YtjnhfabgdegngaaDoor
