/-
  What is proved: (*cache.Cache).queue by contract.
  Conditions: the address is asked for; the packet has at most 2^47 bytes.
-/
import Derived.Test.YtfeipeninmclkaaCaPush
import Derived.Test.YtfeipeninmclkaaRgTail
namespace Go.Proofs.Ytfeipeninmclkaa
open Go.RowKit

theorem step_append_eq {P : Program} {ops : Array Oper} {o : Oper} {a : Act} {w : World} {K : Act → World → Prop} {Q : Exit → Act → World → Prop} {E : Prop} (hgd : o.guard = none) (s x : Operand) (t : TypeId)
    (ho : o.op = .call { callee := .builtin .append, args := #[s, x], argTypes := #[t, t] }) (v1 v2 : Value) (hs : a.eval s = v1) (hx : a.eval x = v2) (v' : Value) (w' : World)
    (hrun : (Builtin.append_ #[t, t] o.type #[v1, v2]).run P w = .ok v' w') (h : K (a.put o.dst v') w') :
    if Region.wanted o (yielded ops a.tmps) = true then Oper.wp P o a w K Q else E := by
  have hw : Region.wanted o (yielded ops a.tmps) = true := by simp [Region.wanted, hgd]
  rw [if_pos hw]
  unfold Oper.wp execOp
  simp only [ho, resolve, invoke, builtin, Sem.run_bind, Sem.run_pure, Result.andThen_ok, List.map_toArray, List.map_cons, List.map_nil, hs, hx, hrun]
  exact h
theorem step_append_to {P : Program} {ops : Array Oper} {o : Oper} {a : Act} {w : World} {K : Act → World → Prop} {Q : Exit → Act → World → Prop} {E : Prop} (hgd : o.guard = none) (s x : Operand) (t : TypeId)
    (ho : o.op = .call { callee := .builtin .append, args := #[s, x], argTypes := #[t, t] }) (v1 v2 : Value) (hs : a.eval s = v1) (hx : a.eval x = v2) (v' : Value) (w' : World)
    (hrun : (Builtin.append_ #[t, t] o.type #[v1, v2]).run P w = .ok v' w') (d : Nat) (hd : o.dst = some d) (h : K (a.put (some d) v') w') :
    if Region.wanted o (yielded ops a.tmps) = true then Oper.wp P o a w K Q else E :=
  step_append_eq hgd s x t ho v1 v2 hs hx v' w' hrun (by rw [hd]; exact h)
def QueueAt (L : List En) (ip : Int) (x : List UInt8) (p : Nat) (F : Nat → Prop) (w : World) (e : Ending) (w' : World) : Prop :=
  ∃ F', e = .returned (.int .i64 (queueC L ip)) ∧ Ca w' p F' (queueL L ip x) ∧ Did w w' F F'
theorem more_ok {e : En} (h : e.Ok) (hk : e.kn = false) (h4 : e.pk.length < 4) (x : List UInt8) : (more e x).Ok :=
  ⟨h.ip, h.t, h.tr0, h.tr1, (by simp [more]; omega), (fun h => by have : e.kn = true := h; rw [hk] at this; cases this), fun _ => by simp [more]⟩
set_option maxRecDepth 100000 in
set_option maxHeartbeats 4000000 in
theorem queue_any (L : List En) (ip : Int) (e : En) (hlk : look L ip = some e) (hkn : e.kn = false) (u : Value) (x : List UInt8) (hbig : x.length ≤ 140737488355328) (p b : Nat) (F : Nat → Prop) (rep : Rep) (w : World) (h : Tab w p b F rep none L) (hu : Rd w u x) :
    Calls Try.prog 23 #[.pointer (some ⟨p, 0, none⟩), .int .u32 ip, u] w (QueueAt L ip x p F w) := by
  have HTa := Lib.hid h
  have HL := Lib.hid hlk
  have HU := Lib.hid hu
  obtain ⟨hem, hei⟩ := look_some hlk
  have hok := h.ok e hem
  have hne := hok.ne hkn
  have h4 := hok.few
  have hip := hok.ip
  obtain ⟨vs, hv⟩ := h.rows e hem (by simp) hne
  obtain ⟨r, hr⟩ : ∃ r, e.raw (rep ip) = r := ⟨_, rfl⟩
  have hl := h.asked (k := ip) (by rw [← hei]; exact hip) false
  have hgot : got L rep ip = r := by
    unfold got
    rw [hlk]
    exact hr
  rw [hgot] at hl
  simp only [Bool.false_eq_true, if_false] at hl
  have hp := h.cell
  have HA := RAt.new w r
  have HB := Lib.hid ((Below.refl _ w).alloc (Nat.le_refl _) r.obj)
  have hsl : r.sl = some ((rep ip).1, e.pk.length, (rep ip).2) := by rw [← hr]; unfold En.raw; rw [if_neg hne]
  have Hr := Lib.hid hr
  have HE := Lib.hid (And.intro hem (And.intro hei (And.intro hok (And.intro hne hkn))))
  rw [hei] at hv
  have HV := Lib.hid hv
  obtain ⟨g, hg⟩ : ∃ g, (rep ip).1 = g := ⟨_, rfl⟩
  obtain ⟨c, hc⟩ : ∃ c, (rep ip).2 = c := ⟨_, rfl⟩
  obtain ⟨n, hn⟩ : ∃ n, e.pk.length = n := ⟨_, rfl⟩
  rw [hg, hc, hn] at hsl
  have HG := Lib.hid hg
  have HC := Lib.hid hc
  have HN := Lib.hid hn
  have hn4 : n ≤ 4 := by omega
  have hq : queueC L ip = if 4 ≤ n then 5 else 0 := by unfold queueC; rw [hlk, ← hn]
  have hqL : queueL L ip x = if 4 ≤ n then L else putL L (more e x) := by unfold queueL; rw [hlk, ← hn]
  have HQ := Lib.hid hq
  have HQL := Lib.hid hqL
  clear h hlk hu hem hei hok hne h4 hip hv hgot hg hc hn hq hqL hr hkn
  obtain ⟨kn, ⟨a1, a2, a3, a4, a5, a6⟩, t, tr, sl⟩ := r
  simp only at hsl
  subst hsl
  obtain ⟨c0, c1, c2, c3, c4, c5, c6, c7, c8, c9⟩ := HA
  unfold Raw.obj at HB c0 c1 c2 c3 c4 c5 c6 c7 c8 c9
  unfold Raw.val at hl
  simp only [slv] at HB hl c0 c1 c2 c3 c4 c5 c6 c7 c8 c9
  go_enter Try.func23, Try.ntmps23
  go_upto_region 2 with (refine wpList_store_row rfl 71 (.tmp 7) (.tmp 13) rfl w.heap.size #[.bool kn, .int .u8 a1, .int .u8 a2, .int .u8 a3, .int .u8 a4, .int .u8 a5, .int .u8 a6, .int .u64 t, .int .i64 tr, .slice (some ⟨g, 0, none⟩) n c] rfl rfl 71 _ (heap_alloc_new w _) enSize rfl (enRow_one _ _ _ _ _ _ _ _ _ _ rfl) ?_; rw [setRow_alloc])
  try simp only [Act.put]
  have HFz0 : Hid ((w.alloc (.cells #[.bool kn, .int .u8 a1, .int .u8 a2, .int .u8 a3, .int .u8 a4, .int .u8 a5, .int .u8 a6, .int .u64 t, .int .i64 tr, .slice (some ⟨g, 0, none⟩) n c] 71)).frozen? ⟨w.heap.size, 9, none⟩ = false) := Lib.hid (by
    unfold World.frozen?
    rw [heap_alloc_new w (.cells #[.bool kn, .int .u8 a1, .int .u8 a2, .int .u8 a3, .int .u8 a4, .int .u8 a5, .int .u8 a6, .int .u64 t, .int .i64 tr, .slice (some ⟨g, 0, none⟩) n c] 71)]
    rfl)
  have hz : w.heap.size < (w.alloc (.cells #[.bool kn, .int .u8 a1, .int .u8 a2, .int .u8 a3, .int .u8 a4, .int .u8 a5, .int .u8 a6, .int .u64 t, .int .i64 tr, .slice (some ⟨g, 0, none⟩) n c] 71)).heap.size := by simp
  generalize w.alloc (.cells #[.bool kn, .int .u8 a1, .int .u8 a2, .int .u8 a3, .int .u8 a4, .int .u8 a5, .int .u8 a6, .int .u64 t, .int .i64 tr, .slice (some ⟨g, 0, none⟩) n c] 71) = w1 at HB c0 c1 c2 c3 c4 c5 c6 c7 c8 c9 hz HFz0 ⊢
  obtain ⟨G, hG⟩ : ∃ G, w.heap.size = G := ⟨_, rfl⟩
  rw [hG] at c0 c1 c2 c3 c4 c5 c6 c7 c8 c9 hz HFz0 ⊢
  have HFz := HFz0
  clear HFz0
  have HGe := Lib.hid hG
  clear hG hl hp
  have HT1 := Lib.hid (HTa.out.below HB.out)
  by_cases hn0 : 4 ≤ n
  · have q1 : decide (4 ≤ (n : Int)) = true := decide_eq_true (by omega)
    have H4 := Lib.hid hn0
    clear hn0
    go_wp2_with fail
    go_ret
    refine ⟨F, ?_, ?_, Did.of_below HB.out⟩
    · rw [HQ.out, if_pos H4.out]
      rfl
    · rw [HQL.out, if_pos H4.out]
      exact ⟨b, rep, HT1.out⟩
  · have q1 : decide (4 ≤ (n : Int)) = false := decide_eq_false (by omega)
    have H4 := Lib.hid hn0
    clear hn0
    go_upto_region 4 with fail
    have HU1 := Lib.hid (HU.out.below HB.out)
    have XC := Lib.hid (clone_any u x (World.drew w1) HU1.out hbig)
    have HT2 : Hid (Tab (World.drew w1) p b F rep none L) := Lib.hid (HT1.out.drewN 1)
    have HB2 : Hid (Below w.heap.size w (World.drew w1)) := Lib.hid (below_dN HB.out 1)
    have HF9 : Hid (∀ W', Below w1.heap.size w1 W' → W'.cell? ⟨G, 9, none⟩ = some (.slice (some ⟨g, 0, none⟩) n c)) := Lib.hid (fun W' hW => (hW.cell (p := ⟨G, 9, none⟩) hz).trans c9)
    have hzd : G < (World.drew w1).heap.size := hz
    refine HT.start (S := fun W' => W'.cell? ⟨G, 9, none⟩ = some (.slice (some ⟨g, 0, none⟩) n c)) 7 1 (by kernel_rfl) rfl ?_
    refine HT.take 0 ⟨some 18, _, _, _, _, _⟩ (.pointer (some ⟨G, 9, none⟩)) rfl (by kernel_rfl) (by kernel_rfl) (by kernel_rfl) (by kernel_rfl) (fun _ _ _ h => h) (Or.inl ⟨by rfl, ?_⟩) (HF9.out _ (below_drew w1)) ?_
    · intro W hSw
      (try dsimp only at hSw)
      go_simp
    try simp only [Act.put, List.setIfInBounds_toArray, List.set_cons_zero, List.set_cons_succ]
    refine HT.take 1 ⟨some 19, _, _, _, _, _⟩ (.slice (some ⟨g, 0, none⟩) n c) rfl (by kernel_rfl) (by kernel_rfl) (by kernel_rfl) (by kernel_rfl) (fun _ _ _ h => h) (Or.inl ⟨by rfl, ?_⟩) (HF9.out _ (below_drew w1)) ?_
    · intro W hSw
      (try dsimp only at hSw)
      go_simp
    try simp only [Act.put, List.setIfInBounds_toArray, List.set_cons_zero, List.set_cons_succ]
    refine HT.take 2 ⟨some 20, _, _, _, _, _⟩ (u) rfl (by kernel_rfl) (by kernel_rfl) (by kernel_rfl) (by kernel_rfl) (fun _ _ _ h => h) (Or.inl ⟨by rfl, ?_⟩) (HF9.out _ (below_drew w1)) ?_
    · intro W hSw
      (try dsimp only at hSw)
      go_simp
    try simp only [Act.put, List.setIfInBounds_toArray, List.set_cons_zero, List.set_cons_succ]
    refine HT.all [3] (by kernel_rfl) (by simp) ?_
    refine HT.cons 3 ⟨some 21, _, _, _, _, _⟩ rfl (by decide) (fun K hK => ?_) HT.nil
    have hk := Lib.hid hK
    clear hK
    go_simp
    go_at_call 25
    refine XC.out.mono ?_
    rintro e3 w3 ⟨pv, rfl, h31, h32⟩
    obtain ⟨pA, pn, pc, rfl⟩ := owns_slice h31
    dsimp only
    have HB3 := Lib.hid h32
    have HO3 := Lib.hid h31
    clear h31 h32
    refine hk.out _ _ (HF9.out _ (below_to (below_drew w1) HB3.out (below_drew w1).size)) ?_
    clear hk K XC
    try simp only [Act.put, List.setIfInBounds_toArray, List.set_cons_zero, List.set_cons_succ]
    refine HT.all [4] (by kernel_rfl) (by simp) ?_
    refine HT.cons 4 ⟨some 22, _, _, _, _, _⟩ rfl (by decide) (fun K hK => ?_) HT.nil
    go_simp
    refine hK _ _ (HF9.out _ (below_al (below_to (below_drew w1) HB3.out (below_drew w1).size) _)) ?_
    clear hK K
    try simp only [Act.put, List.setIfInBounds_toArray, List.set_cons_zero, List.set_cons_succ]
    have hX : (w3.alloc (.cells #[.slice pA pn pc] 35)).cell? ⟨w3.heap.size, 0, none⟩ = some (.slice pA pn pc) := by
      unfold World.cell?
      rw [heap_alloc_new w3 (.cells #[.slice pA pn pc] 35)]
      rfl
    have HB4 := Lib.hid ((Below.refl _ w3).alloc (Nat.le_refl _) (.cells #[.slice pA pn pc] 35))
    have hrow4 : (w3.alloc (.cells #[.slice pA pn pc] 35)).ownsRow 0 35 1 (.slice (some ⟨g, 0, none⟩) n c) n vs := by
      have h := HV.out.row
      rw [HG.out, HC.out, HN.out] at h
      refine owns_at h (fun k hk => ?_)
      cases hk
      have hF := HV.out.own
      rw [HG.out] at hF
      have h1 := HTa.out.flt g hF
      have h2 := HB2.out.size
      have h3 := HB3.out.size
      rw [HB4.out.block g (by omega), HB3.out.block g (by omega), HB2.out.block g h1]
    obtain ⟨v', w5, hrun, ho5, hg5, hat⟩ := push_run hrow4 hX rfl hn4 42
    obtain ⟨g5, c5', rfl⟩ := ownsRow_succ ho5
    have HO5 := Lib.hid ho5
    have HG5 := Lib.hid hg5
    have HAT := Lib.hid hat
    have h9 : Hid (w5.cell? ⟨G, 9, none⟩ = some (.slice (some ⟨g, 0, none⟩) n c)) := Lib.hid (by
      have h := HF9.out _ (below_al (below_to (below_drew w1) HB3.out (below_drew w1).size) (.cells #[.slice pA pn pc] 35))
      rw [← h]
      have hlt := World.block_lt_of_cell? _ _ h
      unfold World.cell?
      rw [HG5.out.block G hlt (fun e => ?_)]
      have hF := HV.out.own
      rw [HG.out] at hF
      have h1 := HTa.out.flt g hF
      have h2 := HGe.out
      have h3 : g = G := by simpa [Value.ownBlock] using e.symm
      omega)
    clear ho5 hg5 hat hX hrow4
    refine HT.all [5] (by kernel_rfl) (by simp) ?_
    refine HT.cons 5 ⟨some 23, _, _, _, _, _⟩ rfl (by decide) (fun K hK => ?_) HT.nil
    refine step_append_to rfl (.tmp 19) (.tmp 22) 42 rfl _ _ rfl rfl _ w5 hrun 23 rfl ?_
    refine hK _ _ h9.out ?_
    clear hK K hrun
    try simp only [Act.put, List.setIfInBounds_toArray, List.set_cons_zero, List.set_cons_succ]
    refine HT.take 6 ⟨some 24, _, _, _, _, _⟩ (.pointer (some ⟨G, 9, none⟩)) rfl (by kernel_rfl) (by kernel_rfl) (by kernel_rfl) (by kernel_rfl) (fun _ _ _ h => h) (Or.inl ⟨by rfl, ?_⟩) h9.out ?_
    · intro W hSw
      (try dsimp only at hSw)
      go_simp
    try simp only [Act.put, List.setIfInBounds_toArray, List.set_cons_zero, List.set_cons_succ]
    refine HT.tail (by kernel_rfl) ?_
    have hc9 := h9.out
    have hf9 : w5.frozen? ⟨G, 9, none⟩ = false := by
      have h1 : G < w3.heap.size := Nat.lt_of_lt_of_le hzd HB3.out.size
      have h2 : G < (w3.alloc (.cells #[.slice pA pn pc] 35)).heap.size := Nat.lt_of_lt_of_le h1 HB4.out.size
      have hg : G ≠ g := fun e => by
        have hF := HV.out.own
        rw [HG.out] at hF
        have := HTa.out.flt g hF
        have := HGe.out
        omega
      have e1 := HG5.out.block G h2 (fun e => hg (by simpa [Value.ownBlock] using e))
      have e2 := HB4.out.block G h1
      have e3 := HB3.out.block G hzd
      have e4 : w5.heap[G]? = w1.heap[G]? := (e1.trans e2).trans e3
      rw [show w5.frozen? ⟨G, 9, none⟩ = w1.frozen? ⟨G, 9, none⟩ by unfold World.frozen?; rw [e4]]
      exact HFz.out
    refine wpAny_ready (rs := [7]) (by kernel_rfl) (by simp) ?_
    refine AllReady.cons (o := ⟨none, _, _, _, _, _⟩) rfl (fun K hK => ?_) AllReady.nil
    go_simp
    refine hK _ _ ?_
    clear hK K
    try simp only [Act.put]
    refine wpAny_done (by kernel_rfl) ?_ _
    clear hc9 hf9
    have hGF : ¬ F G := fun hF => by have := HTa.out.flt G hF; have := HGe.out; omega
    obtain ⟨hem, hei, hok, hne, hkn⟩ := HE.out
    obtain ⟨w6, hw6⟩ : ∃ w6, w5.setCell ⟨G, 9, none⟩ (.slice (some ⟨g5, 0, none⟩) (n + 1) c5') = w6 := ⟨_, rfl⟩
    have h6 : ∀ k, k ≠ G → w6.heap[k]? = w5.heap[k]? := fun k hk => by rw [← hw6]; exact Below.heap_setCell _ _ _ _ hk
    have h6s : w6.heap.size = w5.heap.size := by rw [← hw6]; simp [World.setCell]
    have HPush := Lib.hid (HT2.out.push hem hne (vs := vs) (by rw [hei]; exact HV.out.at (fun k hk => HB2.out.block k (HTa.out.flt k hk))) hzd hGF HB3.out (x := x) HO3.out HB4.out (by rw [hei, HG.out]; exact HG5.out) (v' := .slice (some ⟨g5, 0, none⟩) (n + 1) c5') (by rw [HN.out]; exact HO5.out) (by rw [hei, HG.out]; exact HAT.out) h6 h6s)
    have hb6 : ∀ i, i ≠ 9 → w6.cell? ⟨G, i, none⟩ = w1.cell? ⟨G, i, none⟩ := fun i hi => by
      have h1 : G < w3.heap.size := Nat.lt_of_lt_of_le hzd HB3.out.size
      have h2 : G < (w3.alloc (.cells #[.slice pA pn pc] 35)).heap.size := Nat.lt_of_lt_of_le h1 HB4.out.size
      have hg : G ≠ g := fun e => by
        have hF := HV.out.own
        rw [HG.out] at hF
        exact hGF (e ▸ hF)
      have e1 := HG5.out.block G h2 (fun e => hg (by simpa [Value.ownBlock] using e))
      have e4 : w5.heap[G]? = w1.heap[G]? := (e1.trans (HB4.out.block G h1)).trans (HB3.out.block G hzd)
      rw [← hw6, World.cell?_setCell_other _ _ _ _ (fun e => hi (by simpa using e.symm))]
      unfold World.cell?
      rw [e4]
    have hc9 : w6.cell? ⟨G, 9, none⟩ = some (.slice (some ⟨g5, 0, none⟩) (n + 1) c5') := by rw [← hw6]; exact set_same h9.out _
    have HD6 : Hid (Did w w6 F (plus F (World.drew w1) w6)) := Lib.hid (by
      have hgF := HV.out.own
      rw [HG.out] at hgF
      have s2 := HB2.out.size
      have s3 := HB3.out.size
      have s4 := HB4.out.size
      have s5 := HG5.out.size
      have hkg : ∀ k, ¬ F k → some k ≠ Value.ownBlock (.slice (some ⟨g, 0, none⟩) n c) := fun k hn e => by
        have h : k = g := by simpa [Value.ownBlock] using e
        rw [h] at hn
        exact hn hgF
      refine ⟨?_, ?_, ?_, by omega, fun k hk hn => ?_, fun k hk => ?_⟩
      · rw [← hw6]; exact ((HG5.out.os.trans HB4.out.os).trans HB3.out.os).trans HB2.out.os
      · rw [← hw6]; exact ((HG5.out.tape.trans HB4.out.tape).trans HB3.out.tape).trans HB2.out.tape
      · rw [← hw6]; exact ((HG5.out.output.trans HB4.out.output).trans HB3.out.output).trans HB2.out.output
      · rw [h6 k (by have := HGe.out; omega), HG5.out.block k (by omega) (hkg k hn), HB4.out.block k (by omega), HB3.out.block k (by omega), HB2.out.block k hk]
      · rcases hk with h | ⟨h, _⟩
        · exact .inl h
        · exact .inr (by omega))
    have hk6 : w6.cell? ⟨G, 0, none⟩ = some (.bool kn) := (hb6 0 (by decide)).trans c0
    have hd1 := (hb6 1 (by decide)).trans c1
    have hd2 := (hb6 2 (by decide)).trans c2
    have hd3 := (hb6 3 (by decide)).trans c3
    have hd4 := (hb6 4 (by decide)).trans c4
    have hd5 := (hb6 5 (by decide)).trans c5
    have hd6 := (hb6 6 (by decide)).trans c6
    have hd7 := (hb6 7 (by decide)).trans c7
    have hd8 := (hb6 8 (by decide)).trans c8
    obtain ⟨q, hqv, hT6, hR6, hap6⟩ := HPush.out
    have hq5 : q = (g5, c5') := by
      rw [HN.out] at hqv
      have h := hqv
      simp at h
      exact Prod.ext h.1.symm h.2.symm
    subst hq5
    have hraw : (more e x).raw (g5, c5') = ⟨kn, ⟨a1, a2, a3, a4, a5, a6⟩, t, tr, some (g5, n + 1, c5')⟩ := by
      have h := Hr.out
      unfold En.raw at h ⊢
      simp only [Raw.mk.injEq] at h
      obtain ⟨h1, h2, h3, h4, _⟩ := h
      simp [more, h1, h2, h3, h4, HN.out]
    have hlen : (putL L (more e x)).length ≤ 32 := by
      rw [length_put hT6.srt, show (more e x).ip = ip from hei, HL.out]
      exact hT6.few
    have hst := (hT6.drewN 1).store (e := more e x) (.inr rfl) (more_ok hok hkn (by rw [HN.out]; exact Nat.lt_of_not_le H4.out) x) hlen (g5, c5') (fun _ => by
        obtain ⟨us, hu⟩ := hR6
        exact ⟨us, hu.at (fun _ _ => rfl)⟩) (fun _ f hf hne hfn => hap6 f hf hne hfn)
    obtain ⟨w7, hr7, hT7, hm7⟩ := hst
    rw [hraw, show (more e x).ip = ip from hei] at hr7
    unfold Raw.val at hr7
    simp only [slv] at hr7
    change Sem.run _ _ (World.drew w6) = _ at hr7
    have HT7 := Lib.hid hT7
    have HM7 := Lib.hid hm7
    have hp6 := hT6.cell
    have HT6 := Lib.hid hT6
    have KS : Hid (∀ W', Below w6.heap.size w6 W' → (fun W' => W'.cell? ⟨p, 0, none⟩ = some (.map (some b)) ∧ W'.cell? ⟨G, 0, none⟩ = some (.bool kn) ∧ W'.cell? ⟨G, 1, none⟩ = some (.int .u8 a1) ∧ W'.cell? ⟨G, 2, none⟩ = some (.int .u8 a2) ∧ W'.cell? ⟨G, 3, none⟩ = some (.int .u8 a3) ∧ W'.cell? ⟨G, 4, none⟩ = some (.int .u8 a4) ∧ W'.cell? ⟨G, 5, none⟩ = some (.int .u8 a5) ∧ W'.cell? ⟨G, 6, none⟩ = some (.int .u8 a6) ∧ W'.cell? ⟨G, 7, none⟩ = some (.int .u64 t) ∧ W'.cell? ⟨G, 8, none⟩ = some (.int .i64 tr) ∧ W'.cell? ⟨G, 9, none⟩ = some (.slice (some ⟨g5, 0, none⟩) (n + 1) c5')) W') := Lib.hid (fun W' hW => by
      have hc : ∀ {a : Addr} {v : Value}, w6.cell? a = some v → W'.cell? a = some v := fun hi => (hW.cell (World.block_lt_of_cell? w6 _ hi)).trans hi
      exact ⟨hc hp6, hc hk6, hc hd1, hc hd2, hc hd3, hc hd4, hc hd5, hc hd6, hc hd7, hc hd8, hc hc9⟩)
    have KT : Hid ((fun W' => W'.cell? ⟨p, 0, none⟩ = some (.map (some b)) ∧ W'.cell? ⟨G, 0, none⟩ = some (.bool kn) ∧ W'.cell? ⟨G, 1, none⟩ = some (.int .u8 a1) ∧ W'.cell? ⟨G, 2, none⟩ = some (.int .u8 a2) ∧ W'.cell? ⟨G, 3, none⟩ = some (.int .u8 a3) ∧ W'.cell? ⟨G, 4, none⟩ = some (.int .u8 a4) ∧ W'.cell? ⟨G, 5, none⟩ = some (.int .u8 a5) ∧ W'.cell? ⟨G, 6, none⟩ = some (.int .u8 a6) ∧ W'.cell? ⟨G, 7, none⟩ = some (.int .u64 t) ∧ W'.cell? ⟨G, 8, none⟩ = some (.int .i64 tr) ∧ W'.cell? ⟨G, 9, none⟩ = some (.slice (some ⟨g5, 0, none⟩) (n + 1) c5')) w7) := Lib.hid (by
      obtain ⟨q0, q1, q2, q3, q4, q5, q6, q7, q8, q9, q10⟩ := KS.out _ (below_drew w6)
      exact ⟨turned_cell HM7.out q0, turned_cell HM7.out q1, turned_cell HM7.out q2, turned_cell HM7.out q3, turned_cell HM7.out q4, turned_cell HM7.out q5, turned_cell HM7.out q6, turned_cell HM7.out q7, turned_cell HM7.out q8, turned_cell HM7.out q9, turned_cell HM7.out q10⟩)
    rw [hw6]
    clear hw6 h6 h6s hb6 hc9 hk6 hd1 hd2 hd3 hd4 hd5 hd6 hd7 hd8 hqv hT6 hR6 hap6 hraw hlen hT7 hm7 hp6 HPush h9 HO5 HG5 HAT HO3 HB3 HB4 c0 c1 c2 c3 c4 c5 c6 c7 c8 c9 hem hei hok hne hkn hGF hz HF9 HT2 HU1 HB2 hzd
    go_upto_region 5 with fail
    go_region_held_law (fun W' => W'.cell? ⟨p, 0, none⟩ = some (.map (some b)) ∧ W'.cell? ⟨G, 0, none⟩ = some (.bool kn) ∧ W'.cell? ⟨G, 1, none⟩ = some (.int .u8 a1) ∧ W'.cell? ⟨G, 2, none⟩ = some (.int .u8 a2) ∧ W'.cell? ⟨G, 3, none⟩ = some (.int .u8 a3) ∧ W'.cell? ⟨G, 4, none⟩ = some (.int .u8 a4) ∧ W'.cell? ⟨G, 5, none⟩ = some (.int .u8 a5) ∧ W'.cell? ⟨G, 6, none⟩ = some (.int .u8 a6) ∧ W'.cell? ⟨G, 7, none⟩ = some (.int .u64 t) ∧ W'.cell? ⟨G, 8, none⟩ = some (.int .i64 tr) ∧ W'.cell? ⟨G, 9, none⟩ = some (.slice (some ⟨g5, 0, none⟩) (n + 1) c5'))
      (first | assumption | exact KS.out _ (below_drew w6) | exact KT.out)
      (fail)
    all_goals
      clear KS KT
      go_wp2_with fail
      go_ret
      refine ⟨plus F (World.drew w1) w6, ?_, ?_, (HD6.out.trans (Did.of_below (below_drew w6))).trans (Did.turned HM7.out HT6.out.fb)⟩
      · rw [HQ.out, if_neg H4.out]
        rfl
      · rw [HQL.out, if_neg H4.out]
        exact ⟨b, _, HT7.out⟩
end Go.Proofs.Ytfeipeninmclkaa
