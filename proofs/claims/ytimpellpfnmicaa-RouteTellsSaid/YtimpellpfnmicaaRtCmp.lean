/-
  What is proved: route.inOrder by contract: which of two routes is ahead, by Dst, then by Bits; it lays blocks of its own alone.
  Conditions: none.
-/
import Derived.Test.YtimpellpfnmicaaRtBlk
import Derived.Test.YtimpellpfnmicaaRtRight
import Derived.Sort.Grow
namespace Go.Proofs.Ytimpellpfnmicaa
open Go.RowKit Go.Sort

theorem below_al {w b : World} (h : Below w.heap.size w b) (o : Obj) : Below w.heap.size w (b.alloc o) := h.alloc h.size o
theorem cell_new_at (w : World) (cs : Array Value) (t : TypeId) (i : Nat) {v : Value} (h : cs[i]? = some v := by rfl) : (w.alloc (.cells cs t)).cell? ⟨w.heap.size, i, none⟩ = some v := by
  unfold World.cell?
  rw [heap_alloc_new w (.cells cs t)]
  exact h
theorem nan_ip_any (a : Int) (w : World) : Calls Try.prog 37 #[.int .u32 a] w fun e w' => e = .returned (.bool false) ∧ w' = w := by
  go_enter Try.func37, Try.ntmps37
  go_wp2_with fail
  go_ret
  exact ⟨by simp, rfl⟩
theorem nan_int_any (a : Int) (w : World) : Calls Try.prog 38 #[.int .i64 a] w fun e w' => e = .returned (.bool false) ∧ w' = w := by
  go_enter Try.func38, Try.ntmps38
  go_wp2_with fail
  go_ret
  exact ⟨by simp, rfl⟩
def cmpI (a b : Int) : Int := if a < b then -1 else if b < a then 1 else 0
theorem cmp_ip_any (a b : Int) (w : World) : Calls Try.prog 32 #[.int .u32 a, .int .u32 b] w fun e w' => e = .returned (.int .i64 (cmpI a b)) ∧ w' = w := by
  obtain ⟨c, hc⟩ : ∃ c, cmpI a b = c := ⟨_, rfl⟩
  rw [hc]
  unfold cmpI at hc
  by_cases h1 : a < b
  · obtain rfl : c = -1 := by rw [← hc, if_pos h1]
    go_enter Try.func32, Try.ntmps32
    go_wp2_with (go_at_call 37; refine (nan_ip_any _ _).mono ?_; rintro e w1 ⟨rfl, rfl⟩)
    go_ret
    exact ⟨rfl, rfl⟩
  · by_cases h2 : b < a
    · obtain rfl : c = 1 := by rw [← hc, if_neg h1, if_pos h2]
      go_enter Try.func32, Try.ntmps32
      go_wp2_with (go_at_call 37; refine (nan_ip_any _ _).mono ?_; rintro e w1 ⟨rfl, rfl⟩)
      go_ret
      exact ⟨rfl, rfl⟩
    · obtain rfl : c = 0 := by rw [← hc, if_neg h1, if_neg h2]
      go_enter Try.func32, Try.ntmps32
      go_wp2_with (go_at_call 37; refine (nan_ip_any _ _).mono ?_; rintro e w1 ⟨rfl, rfl⟩)
      go_ret
      exact ⟨rfl, rfl⟩
theorem cmp_int_any (a b : Int) (w : World) : Calls Try.prog 33 #[.int .i64 a, .int .i64 b] w fun e w' => e = .returned (.int .i64 (cmpI a b)) ∧ w' = w := by
  obtain ⟨c, hc⟩ : ∃ c, cmpI a b = c := ⟨_, rfl⟩
  rw [hc]
  unfold cmpI at hc
  by_cases h1 : a < b
  · obtain rfl : c = -1 := by rw [← hc, if_pos h1]
    go_enter Try.func33, Try.ntmps33
    go_wp2_with (go_at_call 38; refine (nan_int_any _ _).mono ?_; rintro e w1 ⟨rfl, rfl⟩)
    go_ret
    exact ⟨rfl, rfl⟩
  · by_cases h2 : b < a
    · obtain rfl : c = 1 := by rw [← hc, if_neg h1, if_pos h2]
      go_enter Try.func33, Try.ntmps33
      go_wp2_with (go_at_call 38; refine (nan_int_any _ _).mono ?_; rintro e w1 ⟨rfl, rfl⟩)
      go_ret
      exact ⟨rfl, rfl⟩
    · obtain rfl : c = 0 := by rw [← hc, if_neg h1, if_neg h2]
      go_enter Try.func33, Try.ntmps33
      go_wp2_with (go_at_call 38; refine (nan_int_any _ _).mono ?_; rintro e w1 ⟨rfl, rfl⟩)
      go_ret
      exact ⟨rfl, rfl⟩

theorem or_any (g : Nat) (a b c : Int) (hc : (if a = 0 then b else a) = c) (w : World) (h0 : w.cell? ⟨g, 0, none⟩ = some (.int .i64 a)) (h1 : w.cell? ⟨g, 1, none⟩ = some (.int .i64 b)) :
    Calls Try.prog 31 #[.slice (some ⟨g, 0, none⟩) 2 2] w fun e w' => e = .returned (.int .i64 c) ∧ w' = w := by
  by_cases ha : a = 0
  · subst ha
    by_cases hb : b = 0
    · subst hb
      obtain rfl : c = 0 := by rw [← hc, if_pos rfl]
      go_enter Try.func31, Try.ntmps31
      go_wp2_with fail
      refine wp_loop_rounds 3 ?_
      rw [rounds_succ]
      go_wp2_with fail
      rw [rounds_succ]
      go_wp2_with fail
      rw [rounds_succ]
      go_wp2_with fail
      go_ret
      exact ⟨rfl, rfl⟩
    · have hb' : (b != 0) = true := by simp [hb]
      obtain rfl : c = b := by rw [← hc, if_pos rfl]
      go_enter Try.func31, Try.ntmps31
      go_wp2_with fail
      refine wp_loop_rounds 2 ?_
      rw [rounds_succ]
      go_wp2_with fail
      rw [rounds_succ]
      go_wp2_with fail
      go_ret
      exact ⟨rfl, rfl⟩
  · have ha' : (a != 0) = true := by simp [ha]
    obtain rfl : c = a := by rw [← hc, if_neg ha]
    go_enter Try.func31, Try.ntmps31
    go_wp2_with fail
    refine wp_loop_rounds 1 ?_
    rw [rounds_succ]
    go_wp2_with fail
    go_ret
    exact ⟨rfl, rfl⟩

theorem grow3 (w : World) (o1 o2 o3 : Obj) : ∃ q os', (((w.alloc o1).alloc o2).alloc o3).drew = grow (w.drewN q) os' := ⟨1, _, by rw [alloc_eq_grow, alloc_eq_grow, alloc_eq_grow, grow_grow, grow_grow]; rfl⟩
def cmpRt (r s : Rt) : Int := if cmpI r.d s.d = 0 then cmpI r.b s.b else cmpI r.d s.d
set_option maxRecDepth 100000 in
set_option maxHeartbeats 2000000 in
theorem inOrder_any (r s : Rt) (w : World) : Calls Try.prog 26 #[.agg #[.int .u32 r.d, .int .i64 r.b, .int .u32 r.v, .int .i64 r.o], .agg #[.int .u32 s.d, .int .i64 s.b, .int .u32 s.v, .int .i64 s.o]] w fun e w' => e = .returned (.int .i64 (cmpRt r s)) ∧ ∃ q os', w' = grow (w.drewN q) os' := by
  have H1 := (RtAt.new w r).below ((Below.refl _ (w.alloc r.obj)).alloc (Nat.le_refl _) s.obj)
  have H2 := RtAt.new (w.alloc r.obj) s
  rw [World.size_alloc] at H2
  obtain ⟨c, hc⟩ : ∃ c, cmpRt r s = c := ⟨_, rfl⟩
  rw [hc]
  unfold cmpRt at hc
  have X1 := Lib.hid (fun W => cmp_ip_any r.d s.d W)
  have X2 := Lib.hid (fun W => cmp_int_any r.b s.b W)
  generalize cmpI r.d s.d = x at hc X1
  generalize cmpI r.b s.b = y at hc X2
  have HC := Lib.hid hc
  clear hc
  unfold Rt.obj at H1 H2
  obtain ⟨a0, a1, _, _⟩ := H1
  obtain ⟨b0, b1, _, _⟩ := H2
  go_enter Try.func26, Try.ntmps26
  go_upto_region 1 with fail
  generalize hW : (w.alloc (Obj.cells #[Value.int IntKind.u32 r.d, Value.int IntKind.i64 r.b, Value.int IntKind.u32 r.v, Value.int IntKind.i64 r.o] 33)).alloc (Obj.cells #[Value.int IntKind.u32 s.d, Value.int IntKind.i64 s.b, Value.int IntKind.u32 s.v, Value.int IntKind.i64 s.o] 33) = W at a0 a1 b0 b1 ⊢
  have HW := Lib.hid hW
  clear hW
  generalize w.heap.size = G at *
  have KS : Hid (∀ W', Below W.heap.size W W' → W'.cell? ⟨G, 0, none⟩ = some (.int .u32 r.d) ∧ W'.cell? ⟨G, 1, none⟩ = some (.int .i64 r.b) ∧ W'.cell? ⟨G + 1, 0, none⟩ = some (.int .u32 s.d) ∧ W'.cell? ⟨G + 1, 1, none⟩ = some (.int .i64 s.b)) := fun W' h =>
    ⟨(h.cell (World.block_lt_of_cell? W _ a0)).trans a0, (h.cell (World.block_lt_of_cell? W _ a1)).trans a1, (h.cell (World.block_lt_of_cell? W _ b0)).trans b0, (h.cell (World.block_lt_of_cell? W _ b1)).trans b1⟩
  go_region_held_law (fun W' => W'.cell? ⟨G, 0, none⟩ = some (.int .u32 r.d) ∧ W'.cell? ⟨G, 1, none⟩ = some (.int .i64 r.b) ∧ W'.cell? ⟨G + 1, 0, none⟩ = some (.int .u32 s.d) ∧ W'.cell? ⟨G + 1, 1, none⟩ = some (.int .i64 s.b))
    (first | assumption | exact KS.out _ (below_dN (Below.refl _ W) 1) | exact KS.out _ (below_al (below_dN (Below.refl _ W) 1) _) | exact KS.out _ (Below.refl _ W))
    (first
      | (go_at_call 32; refine (X1.out _).mono ?_; rintro e w1 ⟨rfl, rfl⟩)
      | (go_at_call 33; refine (X2.out _).mono ?_; rintro e w1 ⟨rfl, rfl⟩)
      | (go_at_call 31; refine (or_any _ x y c HC.out _ (cell_new_at W.drew #[.int .i64 x, .int .i64 y] 3 0) (cell_new_at W.drew #[.int .i64 x, .int .i64 y] 3 1)).mono ?_; rintro e w1 ⟨rfl, rfl⟩))
  all_goals
    go_wp2_with fail
    go_ret
    refine ⟨rfl, ?_⟩
    rw [← HW.out]
    exact grow3 w _ _ _
end Go.Proofs.Ytimpellpfnmicaa
