/-
  What is proved: what layer 9's laws begin with ('shown') is true.
  Conditions: none.
-/
import Derived.Test.YtfeipeninmclkaaCaTick
namespace Go.Proofs.Ytfeipeninmclkaa
open Go.RowKit

section
variable {w : World} {p : Nat} {F : Nat → Prop} {L : List En}
theorem Ca.below {w' : World} (h : Ca w p F L) (hb : Below w.heap.size w w') : Ca w' p F L := by
  obtain ⟨b, rep, hT⟩ := h
  exact ⟨b, rep, hT.below hb⟩
theorem Ca.flt (h : Ca w p F L) : ∀ k, F k → k < w.heap.size := by
  obtain ⟨b, rep, hT⟩ := h
  exact hT.flt
theorem Ca.ok (h : Ca w p F L) : ∀ e ∈ L, e.Ok := by
  obtain ⟨b, rep, hT⟩ := h
  exact hT.ok
theorem Ca.srt (h : Ca w p F L) : Srt L := by
  obtain ⟨b, rep, hT⟩ := h
  exact hT.srt
theorem Ca.few (h : Ca w p F L) : L.length ≤ 32 := by
  obtain ⟨b, rep, hT⟩ := h
  exact hT.few
theorem Ca.at {w' : World} (h : Ca w p F L) (hk : ∀ k, F k → w'.heap[k]? = w.heap[k]?) (hs : w.heap.size ≤ w'.heap.size) : Ca w' p F L := by
  obtain ⟨b, rep, hT⟩ := h
  exact ⟨b, rep, hT.at hk hs⟩
theorem Ca.wait (h : Ca w p F L) {ip now : Int} (hip : U32 ip) (hn : U64 now) {u : Value} {x : List UInt8} (hbig : x.length ≤ 140737488355328) (hu : Rd w u x) :
    Calls Try.prog 11 #[.pointer (some ⟨p, 0, none⟩), .int .u32 ip, u, .int .u64 now] w (WaitAt L ip now x p F w) := by
  obtain ⟨b, rep, hT⟩ := h
  exact wait_any L ip now hip hn u x hbig p b F rep w hT hu
theorem Ca.learn (h : Ca w p F L) {ip now : Int} {m : Mc} (hip : U32 ip) (hn : U64 now) :
    Calls Try.prog 13 #[.pointer (some ⟨p, 0, none⟩), .int .u32 ip, m.val, .int .u64 now] w (LearnAt L ip m now p F w) := by
  obtain ⟨b, rep, hT⟩ := h
  exact learn_any L ip m now hip hn p b F rep w hT
theorem Ca.tick (h : Ca w p F L) {now : Int} (hn : U64 now) :
    Calls Try.prog 16 #[.pointer (some ⟨p, 0, none⟩), .int .u64 now] w (TickAt L now p F w) := by
  obtain ⟨b, rep, hT⟩ := h
  exact tick_any L now hn p b F rep w hT
theorem Ca.find (h : Ca w p F L) {ip now : Int} (hip : U32 ip) (hn : U64 now) :
    Calls Try.prog 19 #[.pointer (some ⟨p, 0, none⟩), .int .u32 ip, .int .u64 now] w fun e w' => e = .returned (.tuple #[(findL L ip now).1.val, .bool (findL L ip now).2]) ∧ Below w.heap.size w w' := by
  obtain ⟨b, rep, hT⟩ := h
  exact find_any L ip now hip hn p b F rep none w hT
theorem Ca.len (h : Ca w p F L) : Calls Try.prog 21 #[.pointer (some ⟨p, 0, none⟩)] w fun e w' => e = .returned (.int .i64 L.length) ∧ w = w' := by
  obtain ⟨b, rep, hT⟩ := h
  exact len_entries L p b F rep none w hT
end
/-! ### '[]byte("x")' of one byte -/
def oneObj (c : Int) : Obj := .cells #[.int .u8 c] 5
/-- The byte of a constant, with the run-time's mark behind it. -/
def oneMark (c : Int) : Obj := .cells #[.int .u8 c] 5 (1, 2)
theorem push_modify {α : Type} (a : Array α) (x : α) (f : α → α) : (a.push x).modify a.size f = a.push (f x) := by
  apply Array.ext
  · simp
  · intro i h1 h2
    simp only [Array.getElem_modify, Array.getElem_push]
    by_cases h : a.size = i
    · subst h
      simp
    · have hi : i < a.size := by simp at h1; omega
      simp [h, hi]
theorem conv_one (W : World) (c : Int) : (convert 35 35 (.slice (some ⟨W.heap.size, 0, none⟩) 1 1)).run Try.prog (W.alloc (.cells #[.int .u8 c] 5)) = .ok (.slice (some ⟨W.heap.size, 0, none⟩) 1 1) (W.alloc (oneMark c)) := by
  have hsh : (W.alloc (oneObj c)).shape? W.heap.size = some (5, 1) := by
    unfold World.shape?
    rw [heap_alloc_new W (oneObj c)]
    rfl
  have h : (convert 35 35 (.slice (some ⟨W.heap.size, 0, none⟩) 1 1)).run Try.prog (W.alloc (oneObj c)) = .ok (.slice (some ⟨W.heap.size, 0, none⟩) 1 1) ((W.alloc (oneObj c)).freeze ⟨W.heap.size, 1, none⟩ 1) := by
    simp [convert, run_underlying Try.underlying35, run_underlying Try.underlying5, markStringish, hsh]
  have e : (W.alloc (oneObj c)).freeze ⟨W.heap.size, 1, none⟩ 1 = W.alloc (oneMark c) := by
    unfold World.freeze
    rw [if_neg (by decide)]
    show ({ W.alloc (oneObj c) with heap := (W.heap.push (oneObj c)).modify W.heap.size _ } : World) = _
    rw [push_modify]
    rfl
  rw [e] at h
  exact h
theorem rd_one (W : World) (c : UInt8) : Rd (W.alloc (oneMark (c.toNat : Int))) (.slice (some ⟨W.heap.size, 0, none⟩) 1 1) [c] := by
  refine ⟨_, 1, rfl, Nat.le_refl _, fun _ => ⟨W.heap.size, 0, rfl, fun i u hu => ?_⟩⟩
  have hi : i = 0 := by have := (List.getElem?_eq_some_iff.1 hu).1; simp at this; omega
  subst hi
  obtain rfl : c = u := by simpa using hu
  unfold World.cell?
  rw [heap_alloc_new W (oneMark (c.toNat : Int))]
  rfl
theorem owns_cell {w : World} {B g : Nat} {e : TypeId} {n c : Nat} {xs : List Value} (h : w.ownsRow B e 1 (.slice (some ⟨g, 0, none⟩) n c) n xs) {i : Nat} {v : Value} (hi : xs[i]? = some v) : w.cell? ⟨g, i, none⟩ = some v := by
  have := h.cells (g := g) rfl i v hi
  rw [Addr.add_lit, Nat.zero_add] at this
  exact this
theorem Pks.cells {w : World} {F : Nat → Prop} {sv : Value} {pk : List (List UInt8)} (h : Pks w F sv pk) (hn : pk ≠ []) :
    ∃ g c, sv = .slice (some ⟨g, 0, none⟩) pk.length c ∧ ∀ i x, pk[i]? = some x → ∃ v, w.cell? ⟨g, i, none⟩ = some v ∧ Rd w v x := by
  rcases h with ⟨h1, _⟩ | ⟨q, vs, _, h2, h3⟩
  · exact absurd h1 hn
  · refine ⟨q.1, q.2, h2, fun i x hx => ?_⟩
    have hl : vs.length = pk.length := by have := h3.row.1; omega
    have hi := (List.getElem?_eq_some_iff.1 hx).1
    have hv : vs[i]? = some (vs[i]'(by omega)) := List.getElem?_eq_getElem (by omega)
    exact ⟨_, owns_cell h3.row hv, (h3.pks i _ x hv hx).rd⟩
def hx : List UInt8 := [120]
def hy : List UInt8 := [121]
def shL1 : List En := [⟨5, false, Mc.zero, 1, 1, [hx]⟩]
def shL2 : List En := [⟨5, false, Mc.zero, 1, 1, [hx, hy]⟩]
def shM : Mc := ⟨2, 0, 0, 0, 0, 0⟩
def shL3 : List En := [⟨5, true, shM, 2, 0, []⟩]
theorem sh_w1 : waitA [] 5 1 = true ∧ waitC [] 5 1 = 0 ∧ waitL [] 5 1 hx = shL1 := ⟨by decide, by decide, by rfl⟩
theorem sh_w2 : waitA shL1 5 1 = false ∧ waitC shL1 5 1 = 0 ∧ waitL shL1 5 1 hy = shL2 := ⟨by decide, by decide, by rfl⟩
theorem sh_f1 : findL shL2 5 1 = (Mc.zero, false) := by decide
theorem sh_l : learnC shL2 5 = 0 ∧ learnP shL2 5 = [hx, hy] ∧ learnL shL2 5 shM 2 = shL3 := ⟨by decide, by rfl, by rfl⟩
theorem sh_f2 : findL shL3 5 61 = (shM, true) := by decide
theorem sh_f3 : findL shL3 5 62 = (Mc.zero, false) := by decide
theorem sh_w3 : waitA shL3 5 2 = false ∧ waitC shL3 5 2 = 8 ∧ waitL shL3 5 2 [] = shL3 := ⟨by decide, by decide, by rfl⟩

theorem mac_eqC (a0 a1 a2 a3 a4 a5 b0 b1 b2 b3 b4 b5 : Int) (w : World) : (Op.equalIn 10000 34 (.agg #[.int .u8 a0, .int .u8 a1, .int .u8 a2, .int .u8 a3, .int .u8 a4, .int .u8 a5]) (.agg #[.int .u8 b0, .int .u8 b1, .int .u8 b2, .int .u8 b3, .int .u8 b4, .int .u8 b5])).run Try.prog w =
    .ok (a0 == b0 && (a1 == b1 && (a2 == b2 && (a3 == b3 && (a4 == b4 && a5 == b5))))) w := by
  have u5 := Try.underlying5
  have g5 := Try.isAgg5
  have z5 := Try.sizeOf5
  rw [show (10000 : Nat) = 9999 + 1 from rfl, Op.equalIn]
  simp only [Sem.run_bind, run_underlying Try.underlying34, Result.andThen_ok]
  simp only [Std.Legacy.Range.forIn_eq_forIn_range', Std.Legacy.Range.size, Nat.sub_zero, Nat.add_sub_cancel, Nat.div_one, List.range'_succ, List.range'_zero, List.forIn_cons, List.forIn_nil]
  go_simp
  by_cases h0 : a0 = b0
  · by_cases h1 : a1 = b1
    · by_cases h2 : a2 = b2
      · by_cases h3 : a3 = b3
        · by_cases h4 : a4 = b4
          · by_cases h5 : a5 = b5 <;> simp [h0, h1, h2, h3, h4, h5]
          · simp [h0, h1, h2, h3, h4]
        · simp [h0, h1, h2, h3]
      · simp [h0, h1, h2]
    · simp [h0, h1]
  · simp [h0]
set_option maxRecDepth 100000 in
set_option maxHeartbeats 4000000 in
theorem shown_any (w : World) : Calls Try.prog 9 #[] w fun e w' => e = .returned (.bool true) ∧ Below w.heap.size w w' := by
  have HN := Lib.hid (fun W => new_any W)
  go_enter Try.func9, Try.ntmps9
  go_upto_region 4 with (go_at_call 10; refine (HN.out _).mono ?_; rintro e w1 ⟨p, rfl, hC, hp, hB⟩; (have C0 := Lib.hid hC); (have B0 := Lib.hid hB); (have P0 := Lib.hid hp); clear hC hB hp)
  have V1 := conv_one w1 120
  have R1 := Lib.hid (rd_one w1 120)
  have D1 := Lib.hid ((Below.refl _ w1).alloc (Nat.le_refl _) (oneMark 120))
  have E1 := Lib.hid ((C0.out.below D1.out).wait (ip := 5) (now := 1) (by exact ⟨by decide, by decide⟩) (by exact ⟨by decide, by decide⟩) (x := hx) (by decide) R1.out)
  unfold WaitAt at E1
  rw [sh_w1.1, sh_w1.2.1, sh_w1.2.2] at E1
  go_upto_region 5 with (go_at_call 11; refine E1.out.mono ?_; rintro e2 w2 ⟨F2, rfl, hC, hD, _⟩; (have C2 := Lib.hid hC); (have G2 := Lib.hid hD); clear hC hD)
  have Q2 := Lib.hid (show Below w.heap.size w w2 from G2.out.below (below_to B0.out D1.out B0.out.size) (Nat.le_trans B0.out.size D1.out.size) (fun k hk => hk.1))
  have N2 : Hid (∀ k, F2 k → w.heap.size ≤ k) := Lib.hid (G2.out.far (Nat.le_trans B0.out.size D1.out.size) (fun k hk => hk.1))
  clear V1 R1 D1 E1 G2
  have V1 := conv_one w2 121
  have R1 := Lib.hid (rd_one w2 121)
  have D1 := Lib.hid ((Below.refl _ w2).alloc (Nat.le_refl _) (oneMark 121))
  have E1 := Lib.hid ((C2.out.below D1.out).wait (ip := 5) (now := 1) (by exact ⟨by decide, by decide⟩) (by exact ⟨by decide, by decide⟩) (x := hy) (by decide) R1.out)
  unfold WaitAt at E1
  rw [sh_w2.1, sh_w2.2.1, sh_w2.2.2] at E1
  go_upto_region 6 with (go_at_call 11; refine E1.out.mono ?_; rintro e3 w3 ⟨F3, rfl, hC, hD, _⟩; (have C3 := Lib.hid hC); (have G3 := Lib.hid hD); clear hC hD)
  have Q3 := Lib.hid (show Below w.heap.size w w3 from G3.out.below (below_to Q2.out D1.out Q2.out.size) (Nat.le_trans Q2.out.size D1.out.size) N2.out)
  have N3 : Hid (∀ k, F3 k → w.heap.size ≤ k) := Lib.hid (G3.out.far (Nat.le_trans Q2.out.size D1.out.size) N2.out)
  clear V1 R1 D1 E1 G3 Q2 N2 C2
  have E1 := Lib.hid (C3.out.find (ip := 5) (now := 1) (by exact ⟨by decide, by decide⟩) (by exact ⟨by decide, by decide⟩))
  rw [sh_f1] at E1
  unfold Mc.val Mc.zero at E1
  simp only at E1
  go_upto_region 7 with (go_at_call 19; refine E1.out.mono ?_; rintro e4 w4 ⟨rfl, hB⟩; (have D4 := Lib.hid hB); clear hB)
  have D5 := Lib.hid (below_al D4.out (.cells #[.int .u8 0, .int .u8 0, .int .u8 0, .int .u8 0, .int .u8 0, .int .u8 0] 34))
  generalize w4.alloc (.cells #[.int .u8 0, .int .u8 0, .int .u8 0, .int .u8 0, .int .u8 0, .int .u8 0] 34) = w5 at D5 ⊢
  have E7 := Lib.hid ((C3.out.below D5.out).learn (ip := 5) (now := 2) (m := shM) (by exact ⟨by decide, by decide⟩) (by exact ⟨by decide, by decide⟩))
  unfold LearnAt at E7
  rw [sh_l.1, sh_l.2.1, sh_l.2.2] at E7
  unfold Mc.val shM at E7
  simp only at E7
  clear E1
  go_upto_region 8 with (go_at_call 13; refine E7.out.mono ?_; rintro e7 w7 ⟨sv, rfl, hP, hC, hD⟩; (have P7 := Lib.hid hP); (have C7 := Lib.hid hC); (have G7 := Lib.hid hD); clear hP hC hD)
  have Q7 := Lib.hid (show Below w.heap.size w w7 from G7.out.below (below_to Q3.out D5.out Q3.out.size) (Nat.le_trans Q3.out.size D5.out.size) N3.out)
  obtain ⟨g, c, rfl, hcl⟩ := P7.out.cells (by simp)
  obtain ⟨pv, hpv, hrd⟩ := hcl 1 hy rfl
  have HPv := Lib.hid hpv
  have HRd := Lib.hid hrd
  clear hcl hpv hrd P7 G7 E7 D5 D4 C3
  have E1 := Lib.hid (C7.out.find (ip := 5) (now := 61) (by exact ⟨by decide, by decide⟩) (by exact ⟨by decide, by decide⟩))
  rw [sh_f2] at E1
  unfold Mc.val shM at E1
  simp only at E1
  go_upto_region 9 with (go_at_call 19; refine E1.out.mono ?_; rintro e8 w8 ⟨rfl, hB⟩; (have D8 := Lib.hid hB); clear hB)
  have D9 := Lib.hid (below_al D8.out (.cells #[.int .u8 2, .int .u8 0, .int .u8 0, .int .u8 0, .int .u8 0, .int .u8 0] 34))
  have M9 := Lib.hid (heap_alloc_new w8 (.cells #[.int .u8 2, .int .u8 0, .int .u8 0, .int .u8 0, .int .u8 0, .int .u8 0] 34))
  have S9 : Hid (w8.heap.size < (w8.alloc (.cells #[.int .u8 2, .int .u8 0, .int .u8 0, .int .u8 0, .int .u8 0, .int .u8 0] 34)).heap.size) := Lib.hid (by simp)
  generalize w8.alloc (.cells #[.int .u8 2, .int .u8 0, .int .u8 0, .int .u8 0, .int .u8 0, .int .u8 0] 34) = w9 at D9 M9 S9 ⊢
  generalize w8.heap.size = G at M9 S9 ⊢
  clear E1 D8
  have E1 := Lib.hid ((C7.out.below D9.out).find (ip := 5) (now := 62) (by exact ⟨by decide, by decide⟩) (by exact ⟨by decide, by decide⟩))
  rw [sh_f3] at E1
  unfold Mc.val Mc.zero at E1
  simp only at E1
  go_upto_region 10 with (go_at_call 19; refine E1.out.mono ?_; rintro e10 w10 ⟨rfl, hB⟩; (have D10 := Lib.hid hB); clear hB)
  have D11 := Lib.hid (below_al D10.out (.cells #[.int .u8 0, .int .u8 0, .int .u8 0, .int .u8 0, .int .u8 0, .int .u8 0] 34))
  generalize w10.alloc (.cells #[.int .u8 0, .int .u8 0, .int .u8 0, .int .u8 0, .int .u8 0, .int .u8 0] 34) = w11 at D11 ⊢
  generalize w10.heap.size = G2 at ⊢
  clear E1 D10
  have B11 := Lib.hid (below_to D9.out D11.out D9.out.size)
  have E1 := Lib.hid ((C7.out.below B11.out).wait (ip := 5) (now := 2) (by exact ⟨by decide, by decide⟩) (by exact ⟨by decide, by decide⟩) (x := []) (by decide) (Rd.nil w11))
  unfold WaitAt at E1
  rw [sh_w3.1, sh_w3.2.1, sh_w3.2.2] at E1
  go_upto_region 11 with (go_at_call 11; refine E1.out.mono ?_; rintro e12 w12 ⟨F12, rfl, hC, hD, hB⟩; (have C12 := Lib.hid hC); (have G12 := Lib.hid (hB (by decide))); clear hC hD hB)
  have B12 := Lib.hid (below_to B11.out G12.out B11.out.size)
  have hm12 := Lib.hid (((D11.out.block G S9.out).trans M9.out))
  have hm13 : w12.heap[G]? = some (.cells #[.int .u8 2, .int .u8 0, .int .u8 0, .int .u8 0, .int .u8 0, .int .u8 0] 34) := (G12.out.block G (Array.getElem?_eq_some_iff.1 hm12.out).1).trans hm12.out
  have m0 : w12.cell? ⟨G, 0, none⟩ = some (.int .u8 2) := by simp [World.cell?, hm13]
  have m1 : w12.cell? ⟨G, 1, none⟩ = some (.int .u8 0) := by simp [World.cell?, hm13]
  have m2 : w12.cell? ⟨G, 2, none⟩ = some (.int .u8 0) := by simp [World.cell?, hm13]
  have m3 : w12.cell? ⟨G, 3, none⟩ = some (.int .u8 0) := by simp [World.cell?, hm13]
  have m4 : w12.cell? ⟨G, 4, none⟩ = some (.int .u8 0) := by simp [World.cell?, hm13]
  have m5 : w12.cell? ⟨G, 5, none⟩ = some (.int .u8 0) := by simp [World.cell?, hm13]
  have hp12 := (B12.out.cell (World.block_lt_of_cell? w7 _ HPv.out)).trans HPv.out
  have hcv : (convert 35 9 pv).run Try.prog w12 = .ok (.string ⟨#[121]⟩) w12 := convert_rd (HRd.out.below B12.out)
  have e1 : (Op.equalIn 10000 34 (.agg #[.int .u8 2, .int .u8 0, .int .u8 0, .int .u8 0, .int .u8 0, .int .u8 0]) (.agg #[.int .u8 2, .int .u8 0, .int .u8 0, .int .u8 0, .int .u8 0, .int .u8 0])).run Try.prog w12 = .ok true w12 := mac_eqC 2 0 0 0 0 0 2 0 0 0 0 0 w12
  have HL := Lib.hid C12.out.len
  clear hm12 hm13 D11 D9 M9 S9 E1 B11 G12
  go_wp2_with (go_at_call 21; refine HL.out.mono ?_; rintro e13 w13 ⟨rfl, rfl⟩)
  go_ret
  exact ⟨rfl, below_to Q7.out B12.out Q7.out.size⟩
end Go.Proofs.Ytfeipeninmclkaa
