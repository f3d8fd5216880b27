/-
  What is proved: 'parts' of the laws of layer 2: at most ten parts of at most two hundred bytes, and all of them as one text.
  Conditions: the slices are of fewer than 2^63 elements.
-/
import Derived.Test.YtphmgnlhnaobkaaSRow
import Derived.Test.YtphmgnlhnaobkaaSLift
import Derived.RegionTactic
namespace Go.Proofs.Ytphmgnlhnaobkaa
open Go.RowKit

theorem sliceinfo : (Try.prog.info? 32).map (fun i => (i.zero, i.size, i.bytes)) = some (some (.slice none 0 0), 1, 24) := by kernel_rfl
/-- append(v, xs...) at slices of bytes: a row of one's own. -/
theorem append_parts {W : World} {v : Value} {vs : List Value} (ho : W.ownsRow 0 32 1 v vs.length vs) (xs : List Value) (A : Addr) (c : Nat) (hx : ∀ j u, xs[j]? = some u → W.cell? (A.add j) = some u) (h1 : ∀ u ∈ xs, u.oneCell' = true) (hL : vs.length + xs.length ≤ 1073741824) :
    ∃ v' W1, (Builtin.append_ #[22, 22] 22 #[v, .slice (some A) xs.length c]).run Try.prog W = .ok v' W1 ∧ W1.ownsRow 0 32 1 v' (vs ++ xs).length (vs ++ xs) ∧ W.grownBy W1 v.ownBlock ∧ (v'.ownBlock = v.ownBlock ∨ v'.ownBlock = some W.heap.size) := by
  obtain ⟨i0, hi, hz0, hz1, hz2⟩ := info_parts sliceinfo
  obtain ⟨v', w1, hrun, ho1, hg, _, hat⟩ := run_append_own_at (P := Try.prog) W 0 22 22 32 i0 (.slice none 0 0) 1 24 Try.underlying22 hi hz0 hz1 hz2 rfl (by omega) v vs.length vs ho A xs.length c xs (by simp)
    hx h1 (by simp only [maxLen]; omega) (by omega) (by omega)
  exact ⟨v', w1, hrun, by rw [List.length_append]; exact ho1, hg, hat⟩

/-- What the parts are, as the law goes on. -/
structure PartsOf (w W : World) (v : Value) (vs : List Value) (bss : List (List UInt8)) : Prop where
  own : W.ownsRow 0 32 1 v vs.length vs
  new : ∀ k, v.ownBlock = some k → w.heap.size ≤ k
  old : Below w.heap.size w W
  len : vs.length = bss.length
  rd : ∀ (j : Nat) (u : Value) (bs : List UInt8), vs[j]? = some u → bss[j]? = some bs → Rd w u bs
  one : ∀ u ∈ vs, u.oneCell' = true
  small : ∀ bs ∈ bss, bs.length ≤ 200
theorem flatten_le : ∀ (bss : List (List UInt8)) (n : Nat), (∀ bs ∈ bss, bs.length ≤ n) → bss.flatten.length ≤ n * bss.length
  | [], _, _ => by simp
  | b :: r, n, h => by
    have h1 := h b (List.mem_cons_self ..)
    have h2 := flatten_le r n (fun x hx => h x (List.mem_cons_of_mem _ hx))
    rw [List.flatten_cons, List.length_append, List.length_cons, Nat.mul_add]
    omega
theorem PartsOf.rdl {w W : World} {v : Value} {vs : List Value} {bss : List (List UInt8)} (h : PartsOf w W v vs bss) : RdL W v bss := by
  rcases h.own.2 with ⟨rfl, hn⟩ | ⟨g, cap, cur, rfl, _, hgg, hnc, _, hsz, htk⟩
  · have : bss = [] := List.eq_nil_of_length_eq_zero (by rw [← h.len]; exact hn)
    subst this
    exact RdL.nil W
  · refine ⟨_, cap, by rw [h.len], by rw [← h.len]; exact hnc, fun _ => ⟨g, 0, rfl, fun i bs hb => ?_⟩⟩
    have hi : i < bss.length := (List.getElem?_eq_some_iff.1 hb).1
    have hv : vs[i]? = some (vs[i]'(by rw [h.len]; exact hi)) := List.getElem?_eq_getElem _
    refine ⟨_, ?_, (h.rd i _ bs hv hb).old h.old⟩
    have h1 := h.own.cells (g := g) rfl i _ hv
    rw [Addr.add_lit] at h1
    exact h1

theorem PartsOf.drewN {w W : World} {v : Value} {vs : List Value} {bss : List (List UInt8)} (h : PartsOf w W v vs bss) (n : Nat) : PartsOf w (W.drewN n) v vs bss :=
  ⟨h.own, h.new, ⟨h.old.os, h.old.tape, h.old.output, h.old.size, h.old.block⟩, h.len, h.rd, h.one, h.small⟩
/-- One part more. -/
theorem PartsOf.step {w W : World} {v : Value} {vs : List Value} {bss : List (List UInt8)} (h : PartsOf w W v vs bss) (hl : bss.length ≤ 100) (B : Option Addr) (K c : Nat) (ps : List UInt8) (hp : Rd w (.slice B K c) ps) (hs : ps.length ≤ 200) :
    ∃ v' W1, (Builtin.append_ #[22, 22] 22 #[v, .slice (some ⟨W.heap.size, 0, none⟩) 1 1]).run Try.prog (W.alloc (.cells #[.slice B K c] 32)) = .ok v' W1 ∧ PartsOf w W1 v' (vs ++ [.slice B K c]) (bss ++ [ps]) := by
  have ho : (W.alloc (.cells #[.slice B K c] 32)).ownsRow 0 32 1 v vs.length vs := h.own.alloc _
  obtain ⟨v', W1, hrun, ho1, hg, hat⟩ := append_parts ho [.slice B K c] ⟨W.heap.size, 0, none⟩ 1 (fun j u hu => by
    match j, hu with
    | 0, hu =>
      obtain rfl := Option.some.inj hu
      rw [Addr.add_lit, World.cell?_alloc_at _ _ _ _ rfl]
      rfl) (fun u hu => by rw [List.mem_singleton.1 hu]; rfl) (by rw [h.len]; simp; omega)
  have hb : Below w.heap.size w (W.alloc (.cells #[.slice B K c] 32)) := h.old.alloc h.old.size _
  refine ⟨v', W1, hrun, ⟨ho1, ?_, hb.grown hg hb.size (fun k hk => h.new k hk), by simp [h.len], ?_, ?_, ?_⟩⟩
  · intro k hk
    rcases hat with e | e
    · exact h.new k (e ▸ hk)
    · rw [e] at hk
      have := Option.some.inj hk
      have := hb.size
      omega
  · intro j u bs hu hb
    rcases Nat.lt_or_ge j vs.length with hj | hj
    · rw [List.getElem?_append_left hj] at hu
      rw [List.getElem?_append_left (by rw [← h.len]; exact hj)] at hb
      exact h.rd j u bs hu hb
    · rw [List.getElem?_append_right hj] at hu
      rw [List.getElem?_append_right (by rw [← h.len]; exact hj), ← h.len] at hb
      obtain ⟨t, ht⟩ : ∃ t, t = j - vs.length := ⟨_, rfl⟩
      rw [← ht] at hu hb
      match t, hu, hb with
      | 0, hu, hb =>
        obtain rfl := Option.some.inj hu
        obtain rfl := Option.some.inj hb
        exact hp
  · intro u hu
    rcases List.mem_append.1 hu with hu | hu
    · exact h.one u hu
    · rw [List.mem_singleton.1 hu]; rfl
  · intro u hu
    rcases List.mem_append.1 hu with hu | hu
    · exact h.small u hu
    · rw [List.mem_singleton.1 hu]; exact hs

set_option maxRecDepth 100000 in
set_option maxHeartbeats 4000000 in
theorem parts_any (A : Option Addr) (M c : Nat) (w : World) (hM : M ≤ c) (hc : c ≤ 9223372036854775807) (hp : PartsAt w A M) :
    Calls Try.prog 11 #[.slice A M c] w fun e w' => ∃ (v : Value) (vs : List Value) (bss : List (List UInt8)), e = .returned (.tuple #[v, .string (txt bss.flatten)]) ∧ bss.length ≤ 10 ∧ PartsOf w w' v vs bss := by
  have HP := Lib.hid hp
  clear hp
  go_enter Try.func11, Try.ntmps11
  go_wp2_with fail
  go_loopw [4, 5, 6] (fun v s i wr => ∃ (k : Nat) (vs : List Value) (bss : List (List UInt8)), k ≤ M ∧ k ≤ 10 ∧ i = .int .i64 (k : Int) ∧ s = .string (txt bss.flatten) ∧ bss.length = k ∧ PartsOf w wr v vs bss) (fun _ _ i _ => 10 - (intOf i).toNat)
  case atStart => exact ⟨0, [], [], by omega, by omega, rfl, rfl, rfl, ⟨World.ownsRow_nil _ _ _ _, by simp [Value.ownBlock], Below.refl _ _, rfl, by simp, by simp, by simp⟩⟩
  case round =>
    obtain ⟨k, vs, bss, hkM, hk, rfl, rfl, hbl, hpo⟩ := hrel
    have PO := Lib.hid hpo
    have BL := Lib.hid hbl
    clear hpo hbl
    by_cases hlt : k < M ∧ k < 10
    · obtain ⟨q1, q2⟩ := hlt
      obtain ⟨g, o, B, bs, cb, rfl, kc, hcb, hrd⟩ := HP.out k q1
      have hlc := hrd.cap_le
      obtain ⟨K, hK⟩ : ∃ K, K = min bs.length 200 := ⟨_, rfl⟩
      have hm0 := fun W => min_run (P := Try.prog) #[3, 3] 3 (bs.length : Int) 200 (K : Int) (by omega) W
      have a1 : K ≤ bs.length := by omega
      have a2 : K ≤ 200 := by omega
      have RB := Lib.hid (hrd.front a1)
      have hKl : (bs.take K).length = K := by rw [List.length_take]; omega
      have KL := Lib.hid hKl
      have kd : wr.cell? ⟨g, o + k, none⟩ = some (.slice B bs.length cb) := (PO.out.old.cell (World.block_lt_of_cell? w _ kc)).trans kc
      clear kc hrd hK hKl
      generalize bs.take K = ps at *
      generalize bs.length = n at *
      go_wp2_with fail
      go_quiet (fail)
      have P2 := Lib.hid (PO.out.drewN nq)
      generalize wr.drewN nq = w2 at *
      clear PO kd
      obtain ⟨v', w3, hrun, hpo⟩ := P2.out.step (by rw [BL.out]; omega) B K cb ps RB.out (by rw [KL.out]; exact a2)
      have ER := Lib.hid hrun
      have P3 := Lib.hid hpo
      have hcv := convert_rd (RB.out.old hpo.old)
      have hfl : bss.flatten.length ≤ 2000 := by
        have := flatten_le bss 200 P2.out.small
        rw [BL.out] at this
        omega
      have hss : (txt bss.flatten).size + (txt ps).size ≤ 4000 := by rw [txt_size, txt_size, KL.out]; omega
      have HTX : Hid (txt bss.flatten ++ txt ps = txt (bss ++ [ps]).flatten) := by show _ = _; rw [txt_append]; simp
      clear hrun hpo P2
      go_wp2_with (at_builtin; refine wpList_append_eq rfl (.tmp 29) (.tmp 31) 22 rfl _ _ rfl rfl _ _ ER.out ?_)
      exact ⟨⟨k + 1, _, bss ++ [ps], by omega, by omega, by go_num, by rw [HTX.out], by rw [List.length_append, BL.out]; rfl, P3.out⟩, by simp [intOf]; omega⟩
    · have hfin : Hid (bss.length ≤ 10) := by show _ ≤ _; rw [BL.out]; exact hk
      by_cases q1 : k < M
      · have q2 : ¬ k < 10 := fun h => hlt ⟨q1, h⟩
        clear hlt
        go_wp2_with fail
        go_ret2
        exact ⟨_, vs, bss, rfl, hfin.out, PO.out⟩
      · clear hlt
        go_wp2_with fail
        go_ret2
        exact ⟨_, vs, bss, rfl, hfin.out, PO.out⟩
end Go.Proofs.Ytphmgnlhnaobkaa
