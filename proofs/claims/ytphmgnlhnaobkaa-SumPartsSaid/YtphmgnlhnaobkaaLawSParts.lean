/-
  What is proved: the law SumParts answers true for any parts, and leaves all older memory as it was.
  Conditions: none but that the slice is of fewer than 2^63 elements.
-/
import Derived.Test.YtphmgnlhnaobkaaLawTells
import Derived.Test.YtphmgnlhnaobkaaLawSees
import Derived.Deep.RegionLaw
import Derived.BigRegion
namespace Go.Proofs.Ytphmgnlhnaobkaa
open Go.RowKit

theorem step_append_eq {P : Program} {ops : Array Oper} {o : Oper} {a : Act} {w : World} {K : Act → World → Prop} {Q : Exit → Act → World → Prop} {E : Prop} (hgd : o.guard = none) (s x : Operand) (t : TypeId)
    (ho : o.op = .call { callee := .builtin .append, args := #[s, x], argTypes := #[t, t] }) (v1 v2 : Value) (hs : a.eval s = v1) (hx : a.eval x = v2) (v' : Value) (w' : World)
    (hrun : (Builtin.append_ #[t, t] o.type #[v1, v2]).run P w = .ok v' w') (h : K (a.put o.dst v') w') :
    if Region.wanted o (yielded ops a.tmps) = true then Oper.wp P o a w K Q else E := by
  have hw : Region.wanted o (yielded ops a.tmps) = true := by simp [Region.wanted, hgd]
  rw [if_pos hw]
  unfold Oper.wp execOp
  simp only [ho, resolve, invoke, builtin, Sem.run_bind, Sem.run_pure, Result.andThen_ok, List.map_toArray, List.map_cons, List.map_nil, hs, hx, hrun]
  exact h

/-- []byte(s): a new row with the text's bytes. -/
theorem bytes_of_txt (W : World) (bs : List UInt8) : ∃ c W1, (convert 9 32 (.string (txt bs))).run Try.prog W = .ok (.slice (some ⟨W.heap.size, 0, none⟩) bs.length c) W1 ∧ Rd W1 (.slice (some ⟨W.heap.size, 0, none⟩) bs.length c) bs ∧ Below W.heap.size W W1 := by
  have h := run_bytes_of_string (P := Try.prog) W 9 32 5 (txt bs) Try.underlying9 Try.underlying32 Try.underlying5
  rw [txt_size] at h
  refine ⟨_, _, h, ⟨_, _, rfl, ?_, fun _ => ⟨_, 0, rfl, fun i u hu => ?_⟩⟩, (Below.refl _ _).drew.alloc (Nat.le_refl _) _⟩
  · exact grownCap_ge ..
  · have hl : i < bs.length := (List.getElem?_eq_some_iff.1 hu).1
    have h1 := World.cell?_alloc_mark W.drew (bytesRow (txt bs) (grownCap W bs.length 0 5)) 5 ((bytesRow (txt bs) (grownCap W bs.length 0 5)).size, (bytesRow (txt bs) (grownCap W bs.length 0 5)).size + 1) i
    rw [World.size_drew] at h1
    rw [Nat.zero_add, h1, bytesRow_at _ _ _ (by simpa [txt] using hl)]
    have e : (txt bs).data[i]'(by simpa [txt] using hl) = u := by
      rw [List.getElem?_eq_getElem hl] at hu
      simpa [txt] using Option.some.inj hu
    rw [e]
    rfl
theorem PartsOf.alloc {w W : World} {v : Value} {vs : List Value} {bss : List (List UInt8)} (h : PartsOf w W v vs bss) (o : Obj) : PartsOf w (W.alloc o) v vs bss :=
  ⟨h.own.alloc _, h.new, h.old.alloc h.old.size _, h.len, h.rd, h.one, h.small⟩
/-- Three parts more: nil, one, an empty one. -/
theorem PartsOf.step3 {w W : World} {v : Value} {vs : List Value} {bss : List (List UInt8)} (h : PartsOf w W v vs bss) (hl : bss.length ≤ 100) (u : Value) (ps : List UInt8) (hp : Rd w u ps) (hs : ps.length ≤ 200) (h1 : u.oneCell' = true) (A : Option Addr) :
    ∃ v' W1, (Builtin.append_ #[22, 22] 22 #[v, .slice (some ⟨W.heap.size, 0, none⟩) 3 3]).run Try.prog (W.alloc (.cells #[.slice none 0 0, u, .slice A 0 0] 32)) = .ok v' W1 ∧ PartsOf w W1 v' (vs ++ [.slice none 0 0, u, .slice A 0 0]) (bss ++ [[], ps, []]) := by
  have ho : (W.alloc (.cells #[.slice none 0 0, u, .slice A 0 0] 32)).ownsRow 0 32 1 v vs.length vs := h.own.alloc _
  have hall : ∀ x ∈ [Value.slice none 0 0, u, .slice A 0 0], x.oneCell' = true := by
    intro x hx
    simp only [List.mem_cons, List.not_mem_nil, or_false] at hx
    rcases hx with rfl | rfl | rfl
    · rfl
    · exact h1
    · rfl
  obtain ⟨v', W1, hrun, ho1, hg, hat⟩ := append_parts ho [.slice none 0 0, u, .slice A 0 0] ⟨W.heap.size, 0, none⟩ 3 (fun j x hx => by
    rw [Addr.add_lit, World.cell?_alloc_at _ _ _ _ rfl]
    match j, hx with
    | 0, hx => exact hx
    | 1, hx => exact hx
    | 2, hx => exact hx) hall (by rw [h.len]; simp; omega)
  have hb : Below w.heap.size w (W.alloc (.cells #[.slice none 0 0, u, .slice A 0 0] 32)) := h.old.alloc h.old.size _
  have hnil : ∀ (B : Option Addr), Rd w (.slice B 0 0) [] := fun B => ⟨B, 0, rfl, Nat.le_refl _, fun h => absurd h (by simp)⟩
  refine ⟨v', W1, hrun, ⟨ho1, ?_, hb.grown hg hb.size (fun k hk => h.new k hk), by simp [h.len], ?_, ?_, ?_⟩⟩
  · intro k hk
    rcases hat with e | e
    · exact h.new k (e ▸ hk)
    · rw [e] at hk
      have := Option.some.inj hk
      have := hb.size
      omega
  · intro j x bs hx hb
    rcases Nat.lt_or_ge j vs.length with hj | hj
    · rw [List.getElem?_append_left hj] at hx
      rw [List.getElem?_append_left (by rw [← h.len]; exact hj)] at hb
      exact h.rd j x bs hx hb
    · rw [List.getElem?_append_right hj] at hx
      rw [List.getElem?_append_right (by rw [← h.len]; exact hj), ← h.len] at hb
      obtain ⟨t, ht⟩ : ∃ t, t = j - vs.length := ⟨_, rfl⟩
      rw [← ht] at hx hb
      match t, hx, hb with
      | 0, hx, hb =>
        obtain rfl := Option.some.inj hx
        obtain rfl := Option.some.inj hb
        exact hnil _
      | 1, hx, hb =>
        obtain rfl := Option.some.inj hx
        obtain rfl := Option.some.inj hb
        exact hp
      | 2, hx, hb =>
        obtain rfl := Option.some.inj hx
        obtain rfl := Option.some.inj hb
        exact hnil _
  · intro x hx
    rcases List.mem_append.1 hx with hx | hx
    · exact h.one x hx
    · exact hall x hx
  · intro x hx
    rcases List.mem_append.1 hx with hx | hx
    · exact h.small x hx
    · simp only [List.mem_cons, List.not_mem_nil, or_false] at hx
      rcases hx with rfl | rfl | rfl
      · simp
      · exact hs
      · simp

/-- A row of bytes that may be nil still. -/
structure MineV (w W : World) (v : Value) (bs : List UInt8) : Prop where
  own : W.ownsRow 0 5 1 v bs.length (bs.map B8)
  new : ∀ k, v.ownBlock = some k → w.heap.size ≤ k
  old : Below w.heap.size w W
theorem MineV.nil (w : World) : MineV w w (.slice none 0 0) [] := ⟨World.ownsRow_nil _ _ _ _, by simp [Value.ownBlock], Below.refl _ _⟩
theorem MineV.drew {w W : World} {v : Value} {bs : List UInt8} (h : MineV w W v bs) : MineV w W.drew v bs := ⟨h.own, h.new, h.old.drew⟩
theorem MineV.rd {w W : World} {v : Value} {bs : List UInt8} (h : MineV w W v bs) : Rd W v bs := by
  rcases h.own.2 with ⟨rfl, hn⟩ | ⟨g, cap, cur, rfl, _, _, hnc, _⟩
  · have : bs = [] := List.eq_nil_of_length_eq_zero hn
    subst this
    exact Rd.nil W
  · refine ⟨_, cap, rfl, hnc, fun _ => ⟨g, 0, rfl, fun i u hu => ?_⟩⟩
    have h1 := h.own.cells (g := g) rfl i (B8 u) (by rw [List.getElem?_map, hu]; rfl)
    rw [Addr.add_lit] at h1
    exact h1
theorem MineV.append {w W : World} {v : Value} {bs : List UInt8} (h : MineV w W v bs) (a b : UInt8) (hL : bs.length ≤ 1000000) :
    ∃ v' W1, (Builtin.append_ #[32, 32] 32 #[v, .slice (some ⟨W.heap.size, 0, none⟩) 2 2]).run Try.prog (W.alloc (bytesObj [a, b])) = .ok v' W1 ∧ MineV w W1 v' (bs ++ [a, b]) := by
  obtain ⟨v', W1, hrun, ho1, hg, hat⟩ := append_own (w := W.alloc (bytesObj [a, b])) (h.own.alloc _) [a, b] (.slice (some ⟨W.heap.size, 0, none⟩) 2 2) (Rd.of_obj (bytesObj_new W [a, b]) (Nat.le_refl _)) (by simp; omega)
  have hb : Below w.heap.size w (W.alloc (bytesObj [a, b])) := h.old.alloc h.old.size _
  refine ⟨v', W1, hrun, ho1, fun k hk => ?_, hb.grown hg hb.size (fun k hk => h.new k hk)⟩
  rcases hat with e | e
  · exact h.new k (e ▸ hk)
  · rw [e] at hk
    have := Option.some.inj hk
    have := hb.size
    omega
theorem par_even' {n : Nat} (h : n % 2 = 0) : par true n = true := by unfold par; rw [if_pos h]
theorem wsum_even (bs : List UInt8) : wsum true (even bs) = wsum true bs := by
  unfold even
  split
  · rw [wsum_append]; unfold par; split <;> simp [wsum]
  · rfl
theorem own_valid {xs : List UInt8} (h : xs.length % 2 = 0) : ck (xs ++ be2 (ck xs)) = 0 ∧ ck (be2 (ck xs) ++ xs) = 0 := by
  have h1 := wsum_own h
  have h2 : wsum true (be2 (ck xs) ++ xs) = wsum true xs + ck xs := by
    have hc := ck_le xs
    rw [wsum_append]
    have e : par true (be2 (ck xs)).length = true := by
      have h : (be2 (ck xs)).length = 2 := rfl
      rw [h]
      rfl
    rw [e]
    simp only [be2, wsum, ofNat_lt]
    omega
  have e1 := fold_mod (wsum true xs)
  have e2 := fold_le (wsum true xs)
  have e0 := fold_zero (wsum true xs)
  have e5 : ck xs = 65535 - fold (wsum true xs) := rfl
  have key : fold (wsum true xs + ck xs) = 65535 := by
    rw [e5]
    generalize wsum true xs = S at *
    generalize fold S = fS at *
    unfold fold
    split <;> omega
  unfold ck at key ⊢
  unfold ck at h1 h2
  rw [h1, h2, key]
  exact ⟨rfl, rfl⟩

set_option maxRecDepth 100000 in
set_option maxHeartbeats 8000000 in
theorem sparts_any (A0 : Option Addr) (M0 c0 : Nat) (w : World) (hM : M0 ≤ c0) (hc0 : c0 ≤ 9223372036854775807) (hp0 : PartsAt w A0 M0) :
    Calls Try.prog 4 #[.slice A0 M0 c0] w fun e w' => e = .returned (.bool true) ∧ Below w.heap.size w w' := by
  have HP := Lib.hid hp0
  clear hp0
  go_enter Try.func4, Try.ntmps4
  go_wp2_with fail
  refine (shown_any w).mono ?_
  rintro e w0 ⟨rfl, hb0⟩
  have B0 := Lib.hid hb0
  clear hb0
  go_wp2_with fail
  refine (parts_any A0 M0 c0 w0 hM hc0 (HP.out.below B0.out)).mono ?_
  rintro e w1 ⟨v, vs, bss, rfl, hbl, hpo⟩
  have hfl : bss.flatten.length ≤ 2000 := by
    have := flatten_le bss 200 hpo.small
    omega
  have SM := Lib.hid hpo.small
  have ONE := Lib.hid hpo.one
  have B1 := Lib.hid (below_to B0.out hpo.old B0.out.size)
  have RL := Lib.hid hpo.rdl
  have RV : Hid (∀ k bs, bss[k]? = some bs → ∃ A' c' g o B cb, v = .slice A' bss.length c' ∧ A' = some ⟨g, o, none⟩ ∧ w1.cell? ⟨g, o + k, none⟩ = some (.slice B (List.length bs) cb) ∧ Rd w1 (.slice B (List.length bs) cb) bs) := by
    intro k bs hk
    obtain ⟨A', c', e, hc', hcell⟩ := hpo.rdl
    obtain ⟨g, o, e', hi⟩ := hcell (by have := (List.getElem?_eq_some_iff.1 hk).1; omega)
    obtain ⟨u, hu, hr⟩ := hi k bs hk
    obtain ⟨A2, c2, rfl, k1, k2⟩ := hr
    exact ⟨A', c', g, o, A2, c2, e, e', hu, ⟨A2, c2, rfl, k1, k2⟩⟩
  clear hpo B0 HP ONE
  go_wp2_with fail
  refine (Sum_any v bss w1 RL.out (by omega) (by omega)).mono ?_
  rintro e w' ⟨rfl, rfl⟩
  obtain ⟨A1, c1, rfl, hc1, -⟩ := RL.out
  obtain ⟨N, hN⟩ : ∃ N, N = bss.length := ⟨_, rfl⟩
  rw [← hN] at hc1 RV ⊢
  have HN := Lib.hid hN
  have hN10 : N ≤ 10 := by omega
  clear hN
  have hcx := ck_le bss.flatten
  go_wp2_with fail
  go_loopw [7, 8] (fun m i wr => ∃ (k : Nat) (vs : List Value) (b3 : List (List UInt8)), k ≤ N ∧ i = .int .i64 (k : Int) ∧ b3.length = 3 * k ∧ b3.flatten = (bss.take k).flatten ∧ PartsOf w1 wr m vs b3) (fun _ i _ => N - (intOf i).toNat)
  case atStart => exact ⟨0, [], [], by omega, rfl, rfl, rfl, ⟨World.ownsRow_nil _ _ _ _, by simp [Value.ownBlock], Below.refl _ _, rfl, by simp, by simp, by simp⟩⟩
  case round =>
    obtain ⟨k, vs3, b3, hk, rfl, hb3, hf3, hpo⟩ := hrel
    have PO := Lib.hid hpo
    have F3 := Lib.hid hf3
    have L3 := Lib.hid hb3
    clear hpo hf3 hb3
    by_cases hlt : k < N
    · obtain ⟨bs, hbs⟩ : ∃ bs, bss[k]? = some bs := ⟨bss[k]'(by have := HN.out; omega), List.getElem?_eq_getElem _⟩
      obtain ⟨A', c', g, o, B, cb, e, rfl, hu, hr⟩ := RV.out k bs hbs
      cases e
      have kd : wr.cell? ⟨g, o + k, none⟩ = some (.slice B bs.length cb) := (PO.out.old.cell (World.block_lt_of_cell? w1 _ hu)).trans hu
      have hbl2 : bs.length ≤ 200 := SM.out bs (List.mem_of_getElem? hbs)
      obtain ⟨v', w2, hrun, hpo⟩ := (PO.out.alloc (.cells #[] 5)).step3 (by rw [L3.out]; omega) _ bs hr hbl2 rfl (some ⟨wr.heap.size, 0, none⟩)
      rw [World.size_alloc] at hrun
      have ER := Lib.hid hrun
      have P2 := Lib.hid hpo
      have F4 : Hid ((b3 ++ [[], bs, []]).flatten = (bss.take (k + 1)).flatten) := by
        show _ = _
        rw [List.flatten_append, F3.out, List.take_add_one, hbs]
        simp
      generalize bs.length = nb at *
      clear hrun hpo PO hu hr
      go_wp2_with (at_builtin; refine wpList_append_eq rfl (.tmp 26) (.tmp 32) 22 rfl _ _ rfl rfl _ _ ER.out ?_)
      exact ⟨⟨k + 1, _, b3 ++ [[], bs, []], by omega, by go_num, by rw [List.length_append, L3.out]; simp; omega, F4.out, P2.out⟩, by simp [intOf]; omega⟩
    · have hkN : k = N := by omega
      have hfe : b3.flatten = bss.flatten := by rw [F3.out, hkN, HN.out, List.take_length]
      have FE := Lib.hid hfe
      have hl30 : b3.length ≤ 30 := by rw [L3.out]; omega
      clear hkN hfe RV SM F3 L3
      generalize bss.flatten = fl at *
      have hfl2 : fl.length ≤ 2000 := hfl
      obtain ⟨cb, w2, hrun, hrd, hbw⟩ := bytes_of_txt wr fl
      have hz := txt_size fl
      have P2 := Lib.hid (show RdL w2 _ b3 from PO.out.rdl.below hbw)
      have R2 := Lib.hid hrd
      have B2 := Lib.hid (below_to B1.out (below_to PO.out.old hbw PO.out.old.size) B1.out.size)
      clear hrd hbw PO B1 RL
      go_wp2_with fail
      refine (Sum_one rfl R2.out (by omega)).mono ?_
      rintro e w3 ⟨rfl, hw3⟩
      have P3 := Lib.hid (show RdL w3 _ b3 by subst hw3; exact P2.out.below ((Below.refl _ _).alloc (Nat.le_refl _) _))
      have B3 := Lib.hid (show Below w.heap.size w w3 by subst hw3; exact B2.out.alloc B2.out.size _)
      clear hw3 P2 R2 B2 hrun
      go_wp2_with fail
      refine (Sum_any _ b3 w3 P3.out (by rw [FE.out]; omega) (by omega)).mono ?_
      rintro e w' ⟨he, rfl⟩
      rw [FE.out] at he
      subst he
      clear P3 FE hl30
      go_upto_if 49 with (fail)
      go_cut [5] (fun t wc => t = .string (txt (even fl)) ∧ w3 = wc)
      case first =>
        by_cases hpar : fl.length % 2 = 1
        · have q : ((fl.length : Int) % 2 == 1) = true := by rw [beq_iff_eq]; omega
          have he : txt fl ++ ⟨#[0]⟩ = txt (even fl) := by rw [show (⟨#[0]⟩ : ByteArray) = txt [0] from rfl, txt_append]; unfold even; rw [if_pos hpar]
          go_wp2_with fail
          go_meet
          case rel => exact ⟨by rw [← he], rfl⟩
        · have q : ((fl.length : Int) % 2 == 1) = false := by rw [beq_eq_false_iff_ne]; omega
          have he : fl = even fl := by unfold even; rw [if_neg hpar]
          go_wp2_with fail
          go_meet
          case rel => exact ⟨by rw [← he], rfl⟩
      case rest =>
        obtain ⟨rfl, rfl⟩ := hcut
        have hLe : (even fl).length % 2 = 0 := even_len _
        have hL2 : (even fl).length ≤ 2000 := even_le hfl (by omega)
        have hck : ck fl = ck (even fl) := by unfold ck; rw [wsum_even]
        rw [hck] at hcx ⊢
        clear hck hz
        generalize even fl = ys at *
        have hy := txt_size ys
        have LE := Lib.hid hLe
        have OV := Lib.hid (own_valid hLe)
        have HB : Hid (Obj.cells #[.int .u8 ((ck ys : Int) / 256), .int .u8 ((ck ys : Int) % 256)] 5 = bytesObj (be2 (ck ys))) := by
          show _ = _
          unfold bytesObj be2
          simp only [List.map_cons, List.map_nil]
          rw [show B8 (UInt8.ofNat (ck ys / 256)) = .int .u8 ((ck ys : Int) / 256) from B8_of (by rw [ofNat_lt]; omega), show B8 (UInt8.ofNat (ck ys)) = .int .u8 ((ck ys : Int) % 256) from B8_of (by rw [ofNat_lt]; omega)]
        obtain ⟨x, hx⟩ : ∃ x, x = ck ys := ⟨_, rfl⟩
        rw [← hx] at hcx HB OV ⊢
        have HX := Lib.hid hx
        obtain ⟨L, hL⟩ : ∃ L, L = ys.length := ⟨_, rfl⟩
        rw [← hL] at hL2 hy hLe
        have HL := Lib.hid hL
        clear hx hL
        have R4 := Lib.hid (show Rd (w3.alloc (bytesObj (be2 x))) (.slice (some ⟨w3.heap.size, 0, none⟩) 2 2) (be2 x) from Rd.of_obj (bytesObj_new w3 _) (Nat.le_refl _))
        have B4 := Lib.hid (show Below w.heap.size w (w3.alloc (bytesObj (be2 x))) from B3.out.alloc B3.out.size _)
        go_wp2_with fail
        rw [HB.out]
        generalize w3.alloc (bytesObj (be2 x)) = w4 at *
        clear HB B3
        go_loopw [10, 11] (fun t i wr => ∃ (k : Nat) (ts : List UInt8), k ≤ L ∧ k % 2 = 0 ∧ i = .int .i64 (k : Int) ∧ ts.length + k = L ∧ wsum true ts = wsum true (ys.drop k) ∧ MineV w4 wr t ts) (fun _ i _ => (intOf i).toNat)
        case atStart => exact ⟨L, [], by omega, hLe, rfl, by simp, by rw [HL.out, List.drop_length], MineV.nil _⟩
        case round =>
          obtain ⟨k, ts, hk, hke, rfl, htl, hws, hm⟩ := hrel
          have MV := Lib.hid hm
          have WS := Lib.hid hws
          have TL := Lib.hid htl
          clear hm hws htl
          by_cases hlt : 0 < k
          · obtain ⟨a, ha⟩ : ∃ a, ys[k - 2]? = some a := ⟨ys[k - 2]'(by have := HL.out; omega), List.getElem?_eq_getElem _⟩
            obtain ⟨b, hb'⟩ : ∃ b, ys[k - 1]? = some b := ⟨ys[k - 1]'(by have := HL.out; omega), List.getElem?_eq_getElem _⟩
            obtain ⟨j, hj⟩ : ∃ j, j = k - 2 := ⟨_, rfl⟩
            have i1 := txt_index ys (k - 2) a ha (j : Int) (by omega)
            have i2 := txt_index ys (k - 1) b hb' ((j : Int) + 1) (by omega)
            have hw1 : IntKind.i64.wrap ((k : Int) - 2) = (j : Int) := by rw [IntKind.wrap_i64]; omega
            have hw2 : IntKind.i64.wrap ((k : Int) - 1) = (j : Int) + 1 := by rw [IntKind.wrap_i64]; omega
            have HJ := Lib.hid hj
            clear hj
            obtain ⟨v', w5, hrun, hm⟩ := MV.out.drew.append a b (by have := TL.out; omega)
            have hrun' : (Builtin.append_ #[32, 32] 32 #[u10, .slice (some ⟨wr.heap.size, 0, none⟩) 2 2]).run Try.prog ((wr.alloc (.cells #[.int .u8 (a.toNat : Int), .int .u8 (b.toNat : Int)] 5)).drew) = .ok v' w5 := hrun
            have ER := Lib.hid hrun'
            have M5 := Lib.hid hm
            have W5 : Hid (wsum true (ts ++ [a, b]) = wsum true (ys.drop (k - 2)) ∧ (ts ++ [a, b]).length + (k - 2) = L) := by
              have h1 := TL.out
              have h2 := HL.out
              have hte : ts.length % 2 = 0 := by omega
              refine ⟨?_, by simp; omega⟩
              have e1 : ys.drop (k - 2) = a :: b :: ys.drop k := by
                rw [List.drop_eq_getElem_cons (by omega), List.drop_eq_getElem_cons (by omega)]
                have g1 : ys[k - 2]'(by omega) = a := by rw [List.getElem?_eq_getElem (by omega)] at ha; exact Option.some.inj ha
                have g2 : ys[k - 2 + 1]'(by omega) = b := by
                  have : k - 2 + 1 = k - 1 := by omega
                  simp only [this]
                  rw [List.getElem?_eq_getElem (by omega)] at hb'
                  exact Option.some.inj hb'
                rw [g1, g2, show k - 2 + 1 + 1 = k by omega]
              rw [e1, wsum_append, par_even' hte, WS.out]
              simp only [wsum]
              omega
            clear hrun hrun' hm MV ha hb'
            go_wp2_with fail
            go_region_law (refine step_append_eq rfl (.tmp 65) (.tmp 74) 32 rfl _ _ rfl rfl _ _ ER.out ?_)
            all_goals (go_wp2_with fail)
            all_goals (exact ⟨⟨j, ts ++ [a, b], by have := HJ.out; omega, by have := HJ.out; omega, by go_num, by rw [HJ.out]; exact W5.out.2, by rw [HJ.out]; exact W5.out.1, M5.out⟩, by have := HJ.out; simp only [intOf]; omega⟩)
          · have hk0 : k = 0 := by omega
            have WT : Hid (ck ts = x) := by
              show _ = _
              have h := WS.out
              rw [hk0, List.drop_zero] at h
              rw [HX.out]
              unfold ck
              rw [h]
            obtain ⟨AT, cT, rfl⟩ : ∃ A c, u10 = .slice A ts.length c := by
              obtain ⟨A, c, e, _⟩ := MV.out.rd
              exact ⟨A, c, e⟩
            have RT := Lib.hid MV.out.rd
            have hb5 := MV.out.old
            have R5 := Lib.hid (R4.out.old hb5)
            have B5 := Lib.hid (below_to B4.out hb5 B4.out.size)
            have tl : ts.length ≤ 2000 := by have := TL.out; omega
            have hbe : (be2 x).length = 2 := rfl
            clear R4 B4 MV WS hb5 hk0
            obtain ⟨d1, w6, hrun1, hrd1, hbw1⟩ := bytes_of_txt wr ys
            rw [← HL.out] at hrun1 hrd1
            have T6 := Lib.hid (RT.out.below hbw1)
            have R6 := Lib.hid (R5.out.below hbw1)
            have B6 := Lib.hid (below_to B5.out hbw1 B5.out.size)
            have Y6 := Lib.hid hrd1
            clear hrd1 hbw1 RT R5 B5
            go_wp2_with fail
            refine (Sum_one rfl Y6.out (by have := HL.out; omega)).mono ?_
            rintro e w7 ⟨he, hw7⟩
            rw [← HX.out] at he
            subst he
            have T7 := Lib.hid (show Rd w7 _ ts by subst hw7; exact T6.out.alloc _)
            have R7 := Lib.hid (show Rd w7 _ (be2 x) by subst hw7; exact R6.out.alloc _)
            have B7 := Lib.hid (show Below w.heap.size w w7 by subst hw7; exact B6.out.alloc B6.out.size _)
            clear hw7 T6 R6 B6 Y6 hrun1
            obtain ⟨d2, w8, hrun1, hrd1, hbw1⟩ := bytes_of_txt w7 ys
            rw [← HL.out] at hrun1 hrd1
            have T8 := Lib.hid (T7.out.below hbw1)
            have R8 := Lib.hid (R7.out.below hbw1)
            have B8' := Lib.hid (below_to B7.out hbw1 B7.out.size)
            have Y8 := Lib.hid hrd1
            clear hrd1 hbw1 T7 R7 B7
            go_wp2_with fail
            refine (Valid_two rfl Y8.out R8.out (by rw [← HL.out, hbe]; omega)).mono ?_
            rintro e w9 ⟨he, hw9⟩
            rw [decide_eq_true OV.out.1] at he
            subst he
            have T9 := Lib.hid (show Rd w9 _ ts by subst hw9; exact T8.out.alloc _)
            have R9 := Lib.hid (show Rd w9 _ (be2 x) by subst hw9; exact R8.out.alloc _)
            have B9 := Lib.hid (show Below w.heap.size w w9 by subst hw9; exact B8'.out.alloc B8'.out.size _)
            clear hw9 T8 R8 B8' Y8 hrun1
            obtain ⟨d3, wa, hrun1, hrd1, hbw1⟩ := bytes_of_txt w9 ys
            rw [← HL.out] at hrun1 hrd1
            have TA := Lib.hid (T9.out.below hbw1)
            have RA := Lib.hid (R9.out.below hbw1)
            have BA := Lib.hid (below_to B9.out hbw1 B9.out.size)
            have YA := Lib.hid hrd1
            clear hrd1 hbw1 T9 R9 B9
            go_wp2_with fail
            refine (Valid_two rfl RA.out YA.out (by rw [← HL.out, hbe]; omega)).mono ?_
            rintro e wb ⟨he, hwb⟩
            rw [decide_eq_true OV.out.2] at he
            subst he
            have TB := Lib.hid (show Rd wb _ ts by subst hwb; exact TA.out.alloc _)
            have BB := Lib.hid (show Below w.heap.size w wb by subst hwb; exact BA.out.alloc BA.out.size _)
            clear hwb TA RA BA YA hrun1
            go_wp2_with fail
            refine (Sum_one rfl TB.out (by omega)).mono ?_
            rintro e wd ⟨he, hwd⟩
            rw [WT.out] at he
            subst he
            have BD := Lib.hid (show Below w.heap.size w wd by subst hwd; exact BB.out.alloc BB.out.size _)
            clear hwd TB BB
            go_wp2_with fail
            go_ret
            exact ⟨rfl, BD.out⟩
end Go.Proofs.Ytphmgnlhnaobkaa
