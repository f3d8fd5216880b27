/-
  What is proved: (*cache.Cache).standing, Find, Len, New by contract.
  Conditions: the numbers fit their types.
-/
import Derived.Test.YtfeipeninmclkaaCaBlk
namespace Go.Proofs.Ytfeipeninmclkaa
open Go.RowKit

theorem raw_old (e : En) (q : Nat × Nat) (now : Int) : rold (e.raw q) now = old e now := rfl
theorem raw_due (e : En) (q : Nat × Nat) (now : Int) : rdue (e.raw q) now = due e now := rfl
theorem below_drew (w : World) : Below w.heap.size w w.drew := ⟨rfl, rfl, rfl, Nat.le_refl _, fun _ _ => rfl⟩
section
variable {w w' : World} {p b : Nat} {F F' F'' : Nat → Prop} {rep : Rep} {x : Option Int} {L : List En}
theorem Did.of_below (h : Below w.heap.size w w') : Did w w' F F := ⟨h.os, h.tape, h.output, h.size, fun k hk _ => h.block k hk, fun _ hk => .inl hk⟩
theorem Did.refl (w : World) (F : Nat → Prop) : Did w w F F := ⟨rfl, rfl, rfl, Nat.le_refl _, fun _ _ _ => rfl, fun _ h => .inl h⟩
theorem Did.trans {w'' : World} (h : Did w w' F F') (k : Did w' w'' F' F'') : Did w w'' F F'' :=
  ⟨k.os.trans h.os, k.tape.trans h.tape, k.output.trans h.output, Nat.le_trans h.size k.size,
   fun i hi hn => (k.block i (Nat.lt_of_lt_of_le hi h.size) (fun hF => by rcases h.new i hF with h1 | h1 <;> first | exact hn h1 | omega)).trans (h.block i hi hn),
   fun i hi => by
     rcases k.new i hi with h1 | h1
     · exact h.new i h1
     · exact .inr (Nat.le_trans h.size h1)⟩
theorem Did.turned (h : w.mapTurned w' b) (hb : F b) : Did w w' F F :=
  ⟨h.grown.os, h.grown.tape, h.grown.output, h.grown.size, fun k hk hn => h.grown.block k hk (fun e => hn (by cases e; exact hb)), fun _ hk => .inl hk⟩
/-- From an old world on. -/
theorem Did.below {B : Nat} {w0 : World} (h : Did w w' F F') (hb : Below B w0 w) (hB : B ≤ w.heap.size) (hF : ∀ k, F k → B ≤ k) : Below B w0 w' :=
  hb.trans ⟨h.os, h.tape, h.output, h.size, fun k hk => h.block k (by omega) (fun hf => by have := hF k hf; omega)⟩
theorem Did.far {B : Nat} (h : Did w w' F F') (hB : B ≤ w.heap.size) (hF : ∀ k, F k → B ≤ k) : ∀ k, F' k → B ≤ k := fun k hk => by
  rcases h.new k hk with h1 | h1
  · exact hF k h1
  · omega
theorem turned_cell (h : w.mapTurned w' b) {a : Addr} {v : Value} (hc : w.cell? a = some v) : w'.cell? a = some v := by
  have hlt := World.block_lt_of_cell? w _ hc
  have hne : a.block ≠ b := fun e => by
    obtain ⟨es, clock, es', clock', hb, _⟩ := h
    rw [← e] at hb
    unfold World.cell? at hc
    rw [hb] at hc
    cases hc
  rw [← hc]
  unfold World.cell?
  rw [h.grown.block a.block hlt (fun e => hne (Option.some.inj e))]
end

theorem enSize : (Try.prog.info? 71).map (·.size) = some 10 := by kernel_rfl
theorem slv_one (sl : Option (Nat × Nat × Nat)) : (slv sl).oneCell' = true := by
  rcases sl with _ | ⟨g, n, c⟩ <;> rfl
theorem enRow_one (kn : Bool) (a b c d e f t tr : Int) (S : Value) (hS : S.oneCell' = true) : (#[Value.bool kn, .int .u8 a, .int .u8 b, .int .u8 c, .int .u8 d, .int .u8 e, .int .u8 f, .int .u64 t, .int .i64 tr, S] : Array Value).all (·.oneCell') = true := by
  simp [Value.oneCell'] at hS ⊢
  exact hS
set_option maxRecDepth 100000 in
set_option maxHeartbeats 2000000 in
theorem standing_any (L : List En) (ip now : Int) (hip : U32 ip) (hn : U64 now) (p b : Nat) (F : Nat → Prop) (rep : Rep) (x : Option Int) (w : World) (h : Tab w p b F rep x L) :
    Calls Try.prog 22 #[.pointer (some ⟨p, 0, none⟩), .int .u32 ip, .int .u64 now] w fun e w' => e = .returned (.int .i64 (stand L ip now)) ∧ Below w.heap.size w w' := by
  obtain ⟨s, hs⟩ : ∃ s, stand L ip now = s := ⟨_, rfl⟩
  rw [hs]
  obtain ⟨r, hr⟩ : ∃ r, got L rep ip = r := ⟨_, rfl⟩
  obtain ⟨is, his⟩ : ∃ is : Bool, (look L ip).isSome = is := ⟨_, rfl⟩
  have HT := Lib.hid h
  have hl := h.asked hip true
  rw [hr, his] at hl
  simp only [if_true] at hl
  have hp := h.cell
  have hrt : U64 r.t := by
    rw [← hr]
    unfold got
    cases hlk : look L ip with
    | none => exact (show U64 0 from ⟨by decide, by decide⟩)
    | some e => exact (h.ok e (look_some hlk).1).t
  have X := Lib.hid (fun W => tooOld_any r now hrt hn W)
  have Hs : Hid (s = if is then (if r.kn then (if rold r now then 1 else 3) else 2) else 0) := Lib.hid (by
    rw [← hs, ← his, ← hr]
    unfold stand got
    cases hlk : look L ip with
    | none => rfl
    | some e => rfl)
  have HB := Lib.hid ((Below.refl _ w).alloc (Nat.le_refl _) r.obj)
  have HA := RAt.new w r
  obtain ⟨o, ho⟩ : ∃ o, rold r now = o := ⟨_, rfl⟩
  rw [ho] at X Hs
  clear hs hr his h hrt ho hip hn
  obtain ⟨kn, ⟨a1, a2, a3, a4, a5, a6⟩, t, tr, sl⟩ := r
  obtain ⟨c0, c1, c2, c3, c4, c5, c6, c7, c8, c9⟩ := HA
  unfold Raw.obj at HB c0 c1 c2 c3 c4 c5 c6 c7 c8 c9
  unfold Raw.val at X hl
  simp only at HB X Hs hl c0 c1 c2 c3 c4 c5 c6 c7 c8 c9
  have HS1 := Lib.hid (slv_one sl)
  generalize slv sl = S at HB X hl c0 c1 c2 c3 c4 c5 c6 c7 c8 c9 HS1
  go_enter Try.func22, Try.ntmps22
  go_upto_region 2 with (refine wpList_store_row rfl 71 (.tmp 7) (.tmp 16) rfl w.heap.size #[.bool kn, .int .u8 a1, .int .u8 a2, .int .u8 a3, .int .u8 a4, .int .u8 a5, .int .u8 a6, .int .u64 t, .int .i64 tr, S] rfl rfl 71 _ (heap_alloc_new w _) enSize rfl (enRow_one _ _ _ _ _ _ _ _ _ _ HS1.out) ?_; rw [setRow_alloc])
  have hz : w.heap.size < (w.alloc (.cells #[.bool kn, .int .u8 a1, .int .u8 a2, .int .u8 a3, .int .u8 a4, .int .u8 a5, .int .u8 a6, .int .u64 t, .int .i64 tr, S] 71)).heap.size := by simp
  generalize w.alloc (.cells #[.bool kn, .int .u8 a1, .int .u8 a2, .int .u8 a3, .int .u8 a4, .int .u8 a5, .int .u8 a6, .int .u64 t, .int .i64 tr, S] 71) = w1 at HB c0 c1 c2 c3 c4 c5 c6 c7 c8 c9 hz ⊢
  clear hl hp
  cases is with
  | false =>
    obtain rfl : s = 0 := Hs.out
    go_wp2_with fail
    go_ret
    exact ⟨rfl, HB.out⟩
  | true =>
    cases kn with
    | false =>
      obtain rfl : s = 2 := Hs.out
      go_wp2_with fail
      go_ret
      exact ⟨rfl, HB.out⟩
    | true =>
      cases o with
      | true =>
        obtain rfl : s = 1 := Hs.out
        go_wp2_with (go_at_call 32; (with_reducible refine (X.out _).mono ?_); rintro e w2 ⟨rfl, h1⟩; (have H1 := Lib.hid h1); clear h1)
        go_ret
        exact ⟨rfl, below_to HB.out H1.out (Nat.le_of_lt hz)⟩
      | false =>
        obtain rfl : s = 3 := Hs.out
        go_wp2_with (go_at_call 32; (with_reducible refine (X.out _).mono ?_); rintro e w2 ⟨rfl, h1⟩; (have H1 := Lib.hid h1); clear h1)
        go_ret
        exact ⟨rfl, below_to HB.out H1.out (Nat.le_of_lt hz)⟩

theorem stand_3 {L : List En} {ip now : Int} : findL L ip now = if stand L ip now = 3 then (((look L ip).map (·.m)).getD Mc.zero, true) else (Mc.zero, false) := by
  unfold findL stand
  cases look L ip with
  | none => rfl
  | some e =>
    cases hk : e.kn <;> cases ho : old e now <;> simp [hk, ho]
def Mc.val (m : Mc) : Value := .agg #[.int .u8 m.a, .int .u8 m.b, .int .u8 m.c, .int .u8 m.d, .int .u8 m.e, .int .u8 m.f]
theorem field_mac (kn : Bool) (a b c d e f t tr : Int) (S : Value) (W : World) : (Instr.field 71 (.agg #[.bool kn, .int .u8 a, .int .u8 b, .int .u8 c, .int .u8 d, .int .u8 e, .int .u8 f, .int .u64 t, .int .i64 tr, S]) 1).run Try.prog W = .ok (.agg #[.int .u8 a, .int .u8 b, .int .u8 c, .int .u8 d, .int .u8 e, .int .u8 f]) W := by kernel_rfl
theorem macSize : (Try.prog.info? 34).map (·.size) = some 6 := by kernel_rfl
set_option maxRecDepth 100000 in
set_option maxHeartbeats 2000000 in
theorem find_any (L : List En) (ip now : Int) (hip : U32 ip) (hn : U64 now) (p b : Nat) (F : Nat → Prop) (rep : Rep) (x : Option Int) (w : World) (h : Tab w p b F rep x L) :
    Calls Try.prog 19 #[.pointer (some ⟨p, 0, none⟩), .int .u32 ip, .int .u64 now] w fun e w' => e = .returned (.tuple #[(findL L ip now).1.val, .bool (findL L ip now).2]) ∧ Below w.heap.size w w' := by
  have hf := stand_3 (L := L) (ip := ip) (now := now)
  obtain ⟨s, hs⟩ : ∃ s, stand L ip now = s := ⟨_, rfl⟩
  obtain ⟨f, hfe⟩ : ∃ f, findL L ip now = f := ⟨_, rfl⟩
  rw [hs, hfe] at hf
  rw [hfe]
  have HT := Lib.hid h
  have X := Lib.hid (fun W (hW : Below w.heap.size w W) => standing_any L ip now hip hn p b F rep x W (h.below hW))
  rw [hs] at X
  have HI := Lib.hid hip
  have Hs := Lib.hid hs
  have HB := Lib.hid ((Below.refl _ w).alloc (Nat.le_refl _) (.cells #[.int .u8 0, .int .u8 0, .int .u8 0, .int .u8 0, .int .u8 0, .int .u8 0] 34))
  clear hs hfe h hip
  go_enter Try.func19, Try.ntmps19
  go_upto_if 12 with (go_at_call 22; (with_reducible refine (X.out _ HB.out).mono ?_); rintro e w2 ⟨rfl, h1⟩; (have H1 := Lib.hid h1); clear h1)
  have hB2 := Lib.hid (below_to HB.out H1.out HB.out.size)
  have hR2 : Hid (w2.heap[w.heap.size]? = some (.cells #[.int .u8 0, .int .u8 0, .int .u8 0, .int .u8 0, .int .u8 0, .int .u8 0] 34)) := Lib.hid ((H1.out.block w.heap.size (by simp)).trans (heap_alloc_new w _))
  have HT2 := Lib.hid (HT.out.below hB2.out)
  obtain ⟨G, hG⟩ : ∃ G, w.heap.size = G := ⟨_, rfl⟩
  have HG := Lib.hid hG
  rw [hG] at hR2 ⊢
  clear H1 HB X HT hG
  by_cases h3 : s = 3
  · subst h3
    rw [if_pos rfl] at hf
    have hl := HT2.out.asked HI.out false
    have hp := HT2.out.cell
    simp only [Bool.false_eq_true, if_false] at hl
    have hm : f = ((got L rep ip).m, true) := by
      rw [hf]
      have h := Hs.out
      unfold stand at h
      unfold got
      cases hlk : look L ip with
      | none => rw [hlk] at h; simp at h
      | some e => rfl
    obtain ⟨r, hr⟩ : ∃ r, got L rep ip = r := ⟨_, rfl⟩
    rw [hr] at hl hm
    subst hm
    clear hf hr Hs
    obtain ⟨kn, ⟨a1, a2, a3, a4, a5, a6⟩, t, tr, sl⟩ := r
    unfold Raw.val at hl
    simp only at hl
    generalize slv sl = S at hl
    have hfd := fun W => field_mac kn a1 a2 a3 a4 a5 a6 t tr S W
    go_wp2_with (refine wpList_store_row rfl 34 (.tmp 6) (.tmp 20) rfl G #[.int .u8 a1, .int .u8 a2, .int .u8 a3, .int .u8 a4, .int .u8 a5, .int .u8 a6] rfl rfl 34 _ hR2.out macSize rfl (by simp [Value.oneCell']) ?_)
    go_wp2_with fail
    (try simp only [Exit.inBlock, Exit.then])
    refine bodyPost_ret (results_cell_tmp_row rfl _ _ G _ #[.int .u8 a1, .int .u8 a2, .int .u8 a3, .int .u8 a4, .int .u8 a5, .int .u8 a6] (0, 0) _ rfl (setRow_heap _ _ _ _ _ _ hR2.out) Try.underlying34 rfl macSize) rfl ?_
    refine ⟨rfl, ?_⟩
    rw [HG.out]
    exact below_setRow (by rw [← HG.out]; exact hB2.out) (Nat.le_refl _) _
  · rw [if_neg h3] at hf
    subst hf
    have q3 : (s != 3) = true := by simp [h3]
    clear h3 Hs
    go_wp2_with (refine wpList_store_row rfl 34 (.tmp 6) (.tmp 13) rfl G #[.int .u8 0, .int .u8 0, .int .u8 0, .int .u8 0, .int .u8 0, .int .u8 0] rfl rfl 34 _ hR2.out macSize rfl (by simp [Value.oneCell']) ?_)
    go_wp2_with fail
    (try simp only [Exit.inBlock, Exit.then])
    refine bodyPost_ret (results_cell_tmp_row rfl _ _ G _ #[.int .u8 0, .int .u8 0, .int .u8 0, .int .u8 0, .int .u8 0, .int .u8 0] (0, 0) _ rfl (setRow_heap _ _ _ _ _ _ hR2.out) Try.underlying34 rfl macSize) rfl ?_
    refine ⟨rfl, ?_⟩
    rw [HG.out]
    exact below_setRow (by rw [← HG.out]; exact hB2.out) (Nat.le_refl _) _
end Go.Proofs.Ytfeipeninmclkaa
