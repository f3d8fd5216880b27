/-
  What is proved: slices.heapSortOrdered at addresses by contract: the row's part is sorted, as the plain function says.
  Conditions: the part lies in the row, and is not empty.
-/
import Derived.Test.YtfeipeninmclkaaCsHeap
namespace Go.Proofs.Ytfeipeninmclkaa
open Go.RowKit

theorem sift_size (hi first r : Nat) (d : Array Int) : (Sort.siftDown Sort.ltInt hi first r d).size = d.size := by
  induction hn : hi - r using Nat.strongRecOn generalizing r d with
  | _ n ih =>
    by_cases h : hi ≤ 2 * r + 1
    · rw [sift_out _ _ _ _ _ h]
    · obtain ⟨m, hm⟩ : ∃ m, Kid Sort.ltInt hi first r m d := by
        by_cases k : 2 * r + 2 < hi
        · cases hl : Sort.ltInt d[first + (2 * r + 1)]! d[first + (2 * r + 2)]! with
          | true => exact ⟨_, by omega, .inr ⟨rfl, k, hl⟩⟩
          | false => exact ⟨_, by omega, .inl ⟨rfl, fun _ => hl⟩⟩
        · exact ⟨_, by omega, .inl ⟨rfl, fun h => absurd h k⟩⟩
      cases hl : Sort.ltInt d[first + r]! d[first + m]! with
      | false => rw [sift_no _ hm hl]
      | true =>
        rw [sift_yes _ hm hl, ih (hi - m) (by obtain ⟨_, ⟨_, _⟩ | ⟨_, _, _⟩⟩ := hm <;> omega) m _ rfl, swp_size]

set_option maxRecDepth 100000 in
set_option maxHeartbeats 2000000 in
theorem heap_any (g o cap a b N : Nat) (d : Array Int) (w : World) (hd : Sort.Holds (Value.int .u32) w g o d) (hN : d.size = N) (hab : a < b) (hb : b ≤ N) (hsz : N ≤ 1000000) :
    Calls Try.prog 46 #[.slice (some ⟨g, o, none⟩) N cap, .int .i64 a, .int .i64 b] w fun e w' =>
      e = .returned (.tuple #[]) ∧ Sr w g o (Sort.heapSort Sort.ltInt d a b) w' := by
  have H0 := Lib.hid (Sr.start hd)
  have HN := Lib.hid hN
  clear hd hN
  obtain ⟨L, hL⟩ : ∃ L : Nat, b - a = L := ⟨_, rfl⟩
  have hLI : (b : Int) - (a : Int) = (L : Int) := by omega
  have hL1 : 1 ≤ L := by omega
  have hLb : a + L ≤ N := by omega
  have HL := Lib.hid hL
  have HLI := Lib.hid hLI
  clear hL hLI
  have HT : Hid (Sort.heapSort Sort.ltInt d a b = Sort.heapPop Sort.ltInt a L (Sort.heapBuild Sort.ltInt L a ((L - 1) / 2 + 1) d)) := Lib.hid (by unfold Sort.heapSort; rw [HL.out])
  obtain ⟨T, hT⟩ : ∃ T, Sort.heapSort Sort.ltInt d a b = T := ⟨_, rfl⟩
  rw [hT] at HT ⊢
  clear hT
  go_enter Try.func46, Try.ntmps46
  go_upto_region 3 with fail
  rw [HLI.out]
  go_wp2
  go_loopw [9] (fun vi wr => ∃ (k : Nat) (z : Int) (e : Array Int), vi = .int .i64 z ∧ z = (k : Int) - 1 ∧ k ≤ L ∧ e.size = N ∧ Sr w g o e wr ∧ T = Sort.heapPop Sort.ltInt a L (Sort.heapBuild Sort.ltInt L a k e)) (fun vi _ => (numOf vi + 1).toNat)
  case atStart => exact ⟨(L - 1) / 2 + 1, _, d, rfl, by omega, by omega, HN.out, H0.out, HT.out⟩
  case round =>
    obtain ⟨k, z, e, rfl, hz, hk, he, hS, hO⟩ := hrel
    have HS := Lib.hid hS
    have HO := Lib.hid hO
    have HE := Lib.hid he
    clear hS hO he
    cases k with
    | succ k =>
      obtain rfl : z = (k : Int) := by omega
      clear hz
      have X := Lib.hid (fun W h => sift_any g o cap k L a N e W h HE.out hLb (by omega) hsz)
      go_wp2_with (go_at_call 56; (with_reducible refine (X.out _ HS.out.row).mono ?_); rintro e2 w2 ⟨rfl, h2⟩; (have H2 := Lib.hid h2); clear h2)
      go_roundw
      case rel => exact ⟨k, (k : Int) - 1, _, rfl, rfl, by omega, by rw [sift_size]; exact HE.out, HS.out.trans H2.out, HO.out⟩
      case measure => (try simp [numOf]) <;> (try omega)
    | zero =>
      obtain rfl : z = -1 := by omega
      clear hz
      go_wp2
      go_loopw [10] (fun vi wi => ∃ (k : Nat) (z : Int) (f : Array Int), vi = .int .i64 z ∧ z = (k : Int) - 1 ∧ k ≤ L ∧ f.size = N ∧ Sr w g o f wi ∧ T = Sort.heapPop Sort.ltInt a k f) (fun vi _ => (numOf vi + 1).toNat)
      case atStart => exact ⟨L, _, e, rfl, rfl, Nat.le_refl _, HE.out, HS.out, HO.out⟩
      case round =>
        obtain ⟨k, z, f, rfl, hz, hk2, hf, hF, hI⟩ := hrel
        have HF := Lib.hid hF
        have HI := Lib.hid hI
        have Hf := Lib.hid hf
        clear hF hI hf
        cases k with
        | zero =>
          obtain rfl : z = -1 := by omega
          clear hz
          go_wp2
          go_end0
          refine ⟨rfl, ?_⟩
          rw [HI.out]
          exact HF.out
        | succ k =>
          obtain rfl : z = (k : Int) := by omega
          clear hz
          obtain ⟨u, hu⟩ : ∃ u : Nat, a + k = u := ⟨_, rfl⟩
          have w1 : IntKind.i64.wrap ((a : Int) + (k : Int)) = (u : Int) := by rw [IntKind.wrap_i64]; omega
          have huN : u < N := by omega
          have haN : a < N := by omega
          obtain ⟨x, hx⟩ : ∃ x, f[u]! = x := ⟨_, rfl⟩
          obtain ⟨y, hy⟩ : ∃ y, f[a]! = y := ⟨_, rfl⟩
          have c1 := HF.out.cell (i := u) (by have := Hf.out; omega)
          have c2 := HF.out.cell (i := a) (by have := Hf.out; omega)
          have f1 := HF.out.free (i := u) (by have := Hf.out; omega)
          have f2 := HF.out.free (i := a) (by have := Hf.out; omega)
          have HW := Lib.hid (fun q => HF.out.swp (i := a) (j := u) (by have := Hf.out; omega) (by have := Hf.out; omega) q)
          rw [hx] at c1 HW
          rw [hy] at c2 HW
          have X := Lib.hid (fun W h => show Calls _ _ #[_, .int .i64 0, _, _] _ _ from sift_any g o cap 0 k a N (Sort.swp f a u) W h (by rw [swp_size]; exact Hf.out) (by omega) (by omega) hsz)
          have HI2 : Hid (T = Sort.heapPop Sort.ltInt a k (Sort.siftDown Sort.ltInt k a 0 (Sort.swp f a u))) := Lib.hid (by rw [HI.out, Sort.heapPop, hu])
          have Hu := Lib.hid hu
          clear hx hy hu
          by_cases hk0 : k = 0
          · obtain rfl : u = a := by have := Hu.out; omega
            obtain rfl : x = y := by rw [c1] at c2; simpa using c2
            clear c1 f1
            have X0 := Lib.hid (fun W h => show Calls _ _ #[_, .int .i64 0, .int .i64 0, _] _ _ from sift_any g o cap 0 0 u N (Sort.swp f u u) W h (by rw [swp_size]; exact Hf.out) (by omega) (by omega) hsz)
            have HI3 : Hid (T = Sort.heapPop Sort.ltInt u 0 (Sort.siftDown Sort.ltInt 0 u 0 (Sort.swp f u u))) := Lib.hid (by have h := HI2.out; rw [hk0] at h; exact h)
            have HD : Hid (Sr w g o (Sort.swp f u u) (World.drew ((wr.setCell ⟨g, o + u, none⟩ (.int .u32 x)).setCell ⟨g, o + u, none⟩ (.int .u32 x)))) := Lib.hid (HW.out 1)
            go_upto_region 10 with fail
            go_region
            all_goals
              go_wp2_with (go_at_call 56; (with_reducible refine (X0.out _ HD.out.row).mono ?_); rintro e2 w2 ⟨rfl, h2⟩; (have H2 := Lib.hid h2); clear h2)
              go_roundw
              case rel => exact ⟨0, -1, _, by simp, rfl, by omega, by rw [sift_size, swp_size]; exact Hf.out, HD.out.trans H2.out, HI3.out⟩
              case measure => simp [numOf]
          · have hne : ¬ a = u := by have := Hu.out; omega
            have hne' : ¬ u = a := fun h => hne h.symm
            go_upto_region 10 with fail
            go_region
            all_goals
              have HD : Hid (Sr w g o (Sort.swp f a u) (World.drew ((wr.setCell ⟨g, o + a, none⟩ (.int .u32 x)).setCell ⟨g, o + u, none⟩ (.int .u32 y)))) := Lib.hid (HW.out 1)
              go_wp2_with (go_at_call 56; (with_reducible refine (X.out _ HD.out.row).mono ?_); rintro e2 w2 ⟨rfl, h2⟩; (have H2 := Lib.hid h2); clear h2)
              go_roundw
              case rel => exact ⟨k, (k : Int) - 1, _, rfl, rfl, by omega, by rw [sift_size, swp_size]; exact Hf.out, HD.out.trans H2.out, HI2.out⟩
              case measure => (try simp [numOf]) <;> (try omega)
end Go.Proofs.Ytfeipeninmclkaa
