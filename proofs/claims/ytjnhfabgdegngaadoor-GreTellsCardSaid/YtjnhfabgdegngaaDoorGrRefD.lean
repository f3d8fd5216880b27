/-
  What is proved: the document's Decap of layer 13 by contract.
  Conditions: the bytes are fewer than 2^39.
-/
import Derived.Test.YtjnhfabgdegngaaDoorGrRefE
import Derived.StillTailTactics
namespace Go.Proofs.YtjnhfabgdegngaaDoor
open Go.RowKit

theorem rgrSize : (Tryd.prog.info? 35).map (·.size) = some 5 := by kernel_rfl
theorem results_cell_tmp3_row {P : Program} {fn : Func} {p u v x : Tmp} {ty : TypeId} (h : fn.results = #[.cell p ty, .tmp u, .tmp v, .tmp x]) (tmps : Array Value) (w : World) (g : Nat) (t : TypeId) (cs : Array Value) (fr : Nat × Nat) (d : TypeDesc)
    (hp : tmps.getD p undef = .pointer (some ⟨g, 0, none⟩)) (hg : w.heap[g]? = some (.cells cs t fr))
    (hu : P.underlying ty = some d) (hd : (match d with | .struct _ | .array _ _ => true | _ => false) = true) (hi : (P.info? ty).map (·.size) = some cs.size) :
    (results fn tmps).run P w = .ok (.tuple #[.agg cs, tmps.getD u undef, tmps.getD v undef, tmps.getD x undef]) w := by
  have hp' : tmps[p]?.getD undef = .pointer (some ⟨g, 0, none⟩) := by simpa using hp
  simp [results, h, hp', asAddr, run_loadVar_row w g t ty cs fr d hg hu hd hi]
theorem gskip_drop (t : Bool) (bs : List UInt8) : gskip t bs = bs.drop (if t then 4 else 0) := by cases t <;> rfl
theorem gleft_drop (s k q : Bool) (bs : List UInt8) : gleft s k q bs = bs.drop ((if s then 4 else 0) + (if k then 4 else 0) + (if q then 4 else 0)) := by
  unfold gleft
  rw [gskip_drop, gskip_drop, gskip_drop, List.drop_drop, List.drop_drop, Nat.add_assoc]
/-- What the document's Decap tells. -/
def RD (bs : List UInt8) (w : World) (e : Ending) (w' : World) : Prop :=
  e = .returned (.tuple #[.agg (if grCode bs = 0 then grHdr bs else gr0).row, .string (if grCode bs = 0 then txt (grLeft bs) else ⟨#[]⟩), .int .i64 (grCode bs : Nat), .bool (if grCode bs = 0 then false else grInner bs)]) ∧ Below w.heap.size w w'
/-- The cell of the result, beside all that is new. -/
structure RDS (w W : World) : Prop where
  z : W.heap[w.heap.size]? = some (.cells gr0.row 35)
  old : Below w.heap.size w W
section
variable {w W W' : World}
theorem RDS.new (w : World) : RDS w (w.alloc (.cells gr0.row 35)) := ⟨heap_alloc_new w _, (Below.refl _ _).alloc (Nat.le_refl _) _⟩
theorem RDS.lt (s : RDS w W) : w.heap.size < W.heap.size := (Array.getElem?_eq_some_iff.1 s.z).1
theorem RDS.below (s : RDS w W) (hb : Below W.heap.size W W') : RDS w W' := ⟨(hb.block _ s.lt).trans s.z, below_to s.old hb s.old.size⟩
theorem RDS.row (s : RDS w W) (cs : Array Value) : Below w.heap.size w (W.setRow w.heap.size cs) :=
  below_to s.old ((Fr.of_row W w.heap.size cs).below (B := w.heap.size) s.old.size (fun x hx => by have e : x.block = w.heap.size := hx; omega)) (Nat.le_refl _)
end
theorem rgrdec_short (bs : List UInt8) (w : World) (h : bs.length < 4) : Calls Tryd.prog 9 #[.string (txt bs)] w fun e w' =>
    e = .returned (.tuple #[.agg gr0.row, .string ⟨#[]⟩, .int .i64 2, .bool true]) ∧ Below w.heap.size w w' := by
  have H0 := Lib.hid (RDS.new w)
  have hZ := Lib.hid H0.out.z
  have hsz := txt_size bs
  generalize txt bs = T at *
  have h1' : T.size < 4 := by omega
  clear hsz h
  go_enter Tryd.func9, Tryd.ntmps9
  go_upto_region 1 with fail
  generalize hW : w.alloc (.cells gr0.row 35) = W at H0 hZ
  have hW2 : w.alloc (.cells #[.bool false, .bool false, .int .u32 0, .bool false, .int .u32 0] 35) = W := hW
  rw [hW2]
  clear hW hW2
  go_wp2_with (refine wpList_store_row rfl 35 (.tmp 2) (.tmp 13) rfl w.heap.size gr0.row rfl rfl 35 _ hZ.out rgrSize rfl (GH.one _) ?_)
  (try simp only [Exit.inBlock, Exit.then])
  refine bodyPost_ret (results_cell_tmp3_row rfl _ _ w.heap.size _ gr0.row (0, 0) _ rfl (setRow_heap _ _ _ _ _ _ hZ.out) Tryd.underlying35 rfl rgrSize) rfl ?_
  exact ⟨rfl, H0.out.row _⟩
section
variable (b0 b1 b2 b3 : UInt8) (r : List UInt8) (w : World)
set_option maxRecDepth 100000 in
set_option maxHeartbeats 4000000 in
theorem rgrdec_bad (hc : gCode4 b0 b1 b2 b3 ≠ 0) : Calls Tryd.prog 9 #[.string (txt (b0 :: b1 :: b2 :: b3 :: r))] w fun e w' =>
    e = .returned (.tuple #[.agg gr0.row, .string ⟨#[]⟩, .int .i64 (gCode4 b0 b1 b2 b3 : Nat), .bool false]) ∧ Below w.heap.size w w' := by
  have H0 := Lib.hid (RDS.new w)
  have hZ := Lib.hid H0.out.z
  have hsz := txt_size (b0 :: b1 :: b2 :: b3 :: r)
  have i0 := fun W => xtxt_index (b0 :: b1 :: b2 :: b3 :: r) 0 b0 rfl 0 rfl W
  have i1 := fun W => xtxt_index (b0 :: b1 :: b2 :: b3 :: r) 1 b1 rfl 1 rfl W
  have i2 := fun W => xtxt_index (b0 :: b1 :: b2 :: b3 :: r) 2 b2 rfl 2 rfl W
  have i3 := fun W => xtxt_index (b0 :: b1 :: b2 :: b3 :: r) 3 b3 rfl 3 rfl W
  generalize txt (b0 :: b1 :: b2 :: b3 :: r) = T at *
  have h1' : ¬ T.size < 4 := by simp at hsz; omega
  obtain ⟨p1, hp1⟩ : ∃ p, ((b0.toNat : Int) % 16 != 0) = p := ⟨_, rfl⟩
  obtain ⟨p2, hp2⟩ : ∃ p, ((b0.toNat : Int) / 64 % 2 != 0) = p := ⟨_, rfl⟩
  obtain ⟨p3, hp3⟩ : ∃ p, ((b1.toNat : Int) != 0) = p := ⟨_, rfl⟩
  have hO : gOther b0 b1 = (p1 || p2 || p3) := by
    rw [← hp1, ← hp2, ← hp3]
    unfold gOther
    rw [Bool.eq_iff_iff]
    simp only [Bool.not_eq_true', Bool.and_eq_false_iff, beq_eq_false_iff_ne, Bool.or_eq_true, bne_iff_ne]
    omega
  have HO := Lib.hid hO
  have HCode : Hid (gCode4 b0 b1 b2 b3 = if gOther b0 b1 = true then 3 else if b2.toNat = 101 ∧ b3.toNat = 88 then 0 else 12) := rfl
  have HC0 := Lib.hid hc
  have l0 := b0.toNat_lt
  have l1 := b1.toNat_lt
  clear hsz hO hc
  go_enter Tryd.func9, Tryd.ntmps9
  go_upto_region 1 with fail
  generalize hW : w.alloc (.cells gr0.row 35) = W at H0 hZ
  have hW2 : w.alloc (.cells #[.bool false, .bool false, .int .u32 0, .bool false, .int .u32 0] 35) = W := hW
  rw [hW2]
  clear hW hW2
  go_upto_region 3 with fail
  go_cut [29] (fun s29 wx => s29 = .bool (gOther b0 b1) ∧ wx = W)
  case first =>
    cases p1
    · cases p2
      · cases p3
        · go_wp2_with fail
          go_meet
          exact ⟨by rw [HO.out]; rfl, rfl⟩
        · go_wp2_with fail
          go_meet
          exact ⟨by rw [HO.out]; rfl, rfl⟩
      · go_wp2_with fail
        go_meet
        exact ⟨by rw [HO.out]; rfl, rfl⟩
    · go_wp2_with fail
      go_meet
      exact ⟨by rw [HO.out]; rfl, rfl⟩
  obtain ⟨rfl, rfl⟩ := hcut
  clear hp1 hp2 hp3
  by_cases h1 : gOther b0 b1 = true
  · have hcd : gCode4 b0 b1 b2 b3 = 3 := by rw [HCode.out, if_pos h1]
    have HCD := Lib.hid hcd
    rw [h1]
    clear hcd h1 i0 i1 i2 i3
    go_wp2_with (refine wpList_store_row rfl 35 (.tmp 2) (.tmp 30) rfl w.heap.size gr0.row rfl rfl 35 _ hZ.out rgrSize rfl (GH.one _) ?_)
    (try simp only [Exit.inBlock, Exit.then])
    refine bodyPost_ret (results_cell_tmp3_row rfl _ _ w.heap.size _ gr0.row (0, 0) _ rfl (setRow_heap _ _ _ _ _ _ hZ.out) Tryd.underlying35 rfl rgrSize) rfl ?_
    exact ⟨by rw [HCD.out]; rfl, H0.out.row _⟩
  · have h1f : gOther b0 b1 = false := by simpa using h1
    have hno : ¬ (b2.toNat = 101 ∧ b3.toNat = 88) := fun k => HC0.out (by rw [HCode.out, if_neg h1, if_pos k])
    have hcd : gCode4 b0 b1 b2 b3 = 12 := by rw [HCode.out, if_neg h1, if_neg hno]
    have HCD := Lib.hid hcd
    rw [h1f]
    have l2 := b2.toNat_lt
    have l3 := b3.toNat_lt
    by_cases h2 : b2.toNat = 101
    · have q2 : ((b2.toNat : Int) != 101) = false := by rw [bne_eq_false_iff_eq]; omega
      have q3 : ((b3.toNat : Int) != 88) = true := by rw [bne_iff_ne]; omega
      clear hcd h1 h1f hno h2 i0 i1
      go_wp2_with (refine wpList_store_row rfl 35 (.tmp 2) (.tmp 39) rfl w.heap.size gr0.row rfl rfl 35 _ hZ.out rgrSize rfl (GH.one _) ?_)
      (try simp only [Exit.inBlock, Exit.then])
      refine bodyPost_ret (results_cell_tmp3_row rfl _ _ w.heap.size _ gr0.row (0, 0) _ rfl (setRow_heap _ _ _ _ _ _ hZ.out) Tryd.underlying35 rfl rgrSize) rfl ?_
      exact ⟨by rw [HCD.out]; rfl, H0.out.row _⟩
    · have q2 : ((b2.toNat : Int) != 101) = true := by rw [bne_iff_ne]; omega
      clear hcd h1 h1f hno h2 i0 i1
      go_wp2_with (refine wpList_store_row rfl 35 (.tmp 2) (.tmp 39) rfl w.heap.size gr0.row rfl rfl 35 _ hZ.out rgrSize rfl (GH.one _) ?_)
      (try simp only [Exit.inBlock, Exit.then])
      refine bodyPost_ret (results_cell_tmp3_row rfl _ _ w.heap.size _ gr0.row (0, 0) _ rfl (setRow_heap _ _ _ _ _ _ hZ.out) Tryd.underlying35 rfl rgrSize) rfl ?_
      exact ⟨by rw [HCD.out]; rfl, H0.out.row _⟩
end
end Go.Proofs.YtjnhfabgdegngaaDoor
