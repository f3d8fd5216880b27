/-
  What is proved: geneve.Decap by contract in words of bytes alone; what was put in comes out.
  Conditions: the bytes are fewer than 2^39.
-/
import Derived.Test.YtnjohgfhagoppaaDoorGvDecap
namespace Go.Proofs.YtnjohgfhagoppaaDoor
open Go.RowKit

def gNames (bs : List UInt8) : List ByteArray := if gInner bs then [gvWord, octetsWord] else [gvWord]
/-- What Decap does. -/
def GDec (bs : List UInt8) (w : World) (e : Ending) (w' : World) : Prop :=
  (gCode bs ≠ 0 ∧ GXBad (gCode bs : Nat) (gNames bs) w e w') ∨ (gCode bs = 0 ∧ GXGood (xId bs) (gOps bs) (gEnd bs) w e w')
theorem gcode_head {bs : List UInt8} (h : gHead bs ≠ 0) : gCode bs = gHead bs := by unfold gCode; rw [if_neg h]
theorem gcode_opt {bs : List UInt8} (h : gHead bs = 0) (h2 : gOpt bs ≠ 0) : gCode bs = gOpt bs := by unfold gCode; rw [if_pos h, if_neg h2]
theorem gcode_frame {bs : List UInt8} (h : gHead bs = 0) (h2 : gOpt bs = 0) : gCode bs = frameWrong (bs.length - 8 - gSize bs) := by unfold gCode; rw [if_pos h, if_pos h2]
theorem gdec_any {v : Value} {bs : List UInt8} {w : World} (hr : Rd w v bs) (hL : bs.length ≤ 549755813888) : Calls Tryd.prog 18 #[v] w (GDec bs w) := by
  by_cases h8 : bs.length < 8
  · have hh : gHead bs = 2 := by unfold gHead; rw [if_pos h8]
    have hc := gcode_head (bs := bs) (by rw [hh]; decide)
    have hi : gInner bs = true := by unfold gInner; rw [decide_eq_true h8]; rfl
    have hn : gNames bs = [gvWord, octetsWord] := by unfold gNames; rw [hi]; rfl
    refine (gdecap_nohead (n := 2) (l := [octetsWord]) hr (by omega) fun p W hp => ?_).mono fun e w' h => .inl ⟨by rw [hc, hh]; decide, by rw [hc, hh, hn]; exact h⟩
    by_cases h2 : bs.length < 4
    · exact ghead_short0 p bs W hp h2
    · obtain ⟨b0, b1, b2, b3, r, rfl⟩ := four (by omega : 4 ≤ bs.length)
      exact ghead_short4 p b0 b1 b2 b3 r W hp (by simp at h8; omega)
  · obtain ⟨b0, b1, b2, b3, b4, b5, b6, b7, r, rfl⟩ := eight (by omega : 8 ≤ bs.length)
    have hrl : (b0 :: b1 :: b2 :: b3 :: b4 :: b5 :: b6 :: b7 :: r).length - 8 = r.length := by simp
    have hrL : r.length ≤ 549755813888 := by simp at hL; omega
    have hLL : (b0 :: b1 :: b2 :: b3 :: b4 :: b5 :: b6 :: b7 :: r).length ≤ 1099511627776 := by omega
    have d8 : decide ((b0 :: b1 :: b2 :: b3 :: b4 :: b5 :: b6 :: b7 :: r).length < 8) = false := decide_eq_false h8
    have hhd : gHead (b0 :: b1 :: b2 :: b3 :: b4 :: b5 :: b6 :: b7 :: r) = if 64 ≤ b0.toNat ∨ 128 ≤ b1.toNat then 3 else if b2.toNat = 101 ∧ b3.toNat = 88 then 0 else 12 := by
      show (if _ then 2 else _) = _
      rw [if_neg h8]
      rfl
    have bad : ∀ k : Nat, gHead (b0 :: b1 :: b2 :: b3 :: b4 :: b5 :: b6 :: b7 :: r) = k → k ≠ 0 → (∀ p W, Rdr W p (b0 :: b1 :: b2 :: b3 :: b4 :: b5 :: b6 :: b7 :: r) → Calls Tryd.prog 46 #[.pointer (some p)] W (GNo (k : Nat) [] p W)) →
        Calls Tryd.prog 18 #[v] w (GDec (b0 :: b1 :: b2 :: b3 :: b4 :: b5 :: b6 :: b7 :: r) w) := fun k hk h0 hp => by
      have hc := gcode_head (bs := b0 :: b1 :: b2 :: b3 :: b4 :: b5 :: b6 :: b7 :: r) (by rw [hk]; exact h0)
      have hi : gInner (b0 :: b1 :: b2 :: b3 :: b4 :: b5 :: b6 :: b7 :: r) = false := by unfold gInner; rw [d8, hk, decide_eq_false h0]; rfl
      have hn : gNames (b0 :: b1 :: b2 :: b3 :: b4 :: b5 :: b6 :: b7 :: r) = [gvWord] := by unfold gNames; rw [hi]; rfl
      exact (gdecap_nohead hr hLL hp).mono fun e w' h => .inl ⟨by rw [hc, hk]; exact h0, by rw [hc, hk, hn]; exact h⟩
    by_cases hf : 64 ≤ b0.toNat ∨ 128 ≤ b1.toNat
    · exact bad 3 (by rw [hhd, if_pos hf]) (by decide) fun p W hp => ghead_form p b0 b1 b2 b3 b4 b5 b6 b7 r W hp (by omega) hf
    · rw [if_neg hf] at hhd
      by_cases ht : b2.toNat = 101 ∧ b3.toNat = 88
      · rw [if_pos ht] at hhd
        have eS : ((b0.toNat : Int) * 4) = ((4 * b0.toNat : Nat) : Int) := by omega
        have hsz : gSize (b0 :: b1 :: b2 :: b3 :: b4 :: b5 :: b6 :: b7 :: r) = 4 * b0.toNat := by show 4 * (b0.toNat % 64) = _; omega
        have hmid : gMid (b0 :: b1 :: b2 :: b3 :: b4 :: b5 :: b6 :: b7 :: r) = r.take (4 * b0.toNat) := by unfold gMid; rw [hsz]; rfl
        have hend : gEnd (b0 :: b1 :: b2 :: b3 :: b4 :: b5 :: b6 :: b7 :: r) = r.drop (4 * b0.toNat) := by
          unfold gEnd
          rw [hsz, Nat.add_comm]
          rfl
        have hcb : gCritBit (b0 :: b1 :: b2 :: b3 :: b4 :: b5 :: b6 :: b7 :: r) = (b1.toNat / 64 % 2 == 1) := rfl
        have hid : xId (b0 :: b1 :: b2 :: b3 :: b4 :: b5 :: b6 :: b7 :: r) = (b4.toNat * 256 + b5.toNat) * 256 + b6.toNat := rfl
        have hopt : gOpt (b0 :: b1 :: b2 :: b3 :: b4 :: b5 :: b6 :: b7 :: r) = if r.length < 4 * b0.toNat then 2 else match ops (r.take (4 * b0.toNat)) with
            | none => 3
            | some l => if opCrit l = (b1.toNat / 64 % 2 == 1) then 0 else 3 := by unfold gOpt; rw [hrl, hsz, hmid, hcb]; rfl
        have hinn : gInner (b0 :: b1 :: b2 :: b3 :: b4 :: b5 :: b6 :: b7 :: r) = decide (r.length < 4 * b0.toNat) := by unfold gInner; rw [d8, hhd, hrl, hsz]; rfl
        have hh : ∀ p W, Rdr W p (b0 :: b1 :: b2 :: b3 :: b4 :: b5 :: b6 :: b7 :: r) → Calls Tryd.prog 46 #[.pointer (some p)] W fun e w' => e = .returned (.tuple #[.agg #[.int .u32 (((b4.toNat * 256 + b5.toNat) * 256 + b6.toNat : Nat) : Int), .int .i64 ((4 * b0.toNat : Nat) : Int), .bool (b1.toNat / 64 % 2 == 1)], .nilIface]) ∧ Rdr w' p r ∧ Fr (· = p) W w' := fun p W hp => by
          have h := ghead_ok p b0 b1 b2 b3 b4 b5 b6 b7 r W hp (by omega) hf ht
          rw [eS] at h
          exact h
        have noopts : ∀ (k : Nat) (l : List ByteArray), gOpt (b0 :: b1 :: b2 :: b3 :: b4 :: b5 :: b6 :: b7 :: r) = k → k ≠ 0 → gNames (b0 :: b1 :: b2 :: b3 :: b4 :: b5 :: b6 :: b7 :: r) = gvWord :: l →
            (∀ p W, Rdr W p r → Calls Tryd.prog 47 #[.pointer (some p), .agg #[.int .u32 (((b4.toNat * 256 + b5.toNat) * 256 + b6.toNat : Nat) : Int), .int .i64 ((4 * b0.toNat : Nat) : Int), .bool (b1.toNat / 64 % 2 == 1)]] W (LNo (k : Nat) l p W)) →
            Calls Tryd.prog 18 #[v] w (GDec (b0 :: b1 :: b2 :: b3 :: b4 :: b5 :: b6 :: b7 :: r) w) := fun k l hk h0 hn ho => by
          have hc := gcode_opt hhd (by rw [hk]; exact h0)
          exact (gdecap_noopts hr hLL hh ho).mono fun e w' h => .inl ⟨by rw [hc, hk]; exact h0, by rw [hc, hk, hn]; exact h⟩
        by_cases hs : r.length < 4 * b0.toNat
        · rw [if_pos hs] at hopt
          exact noopts 2 [octetsWord] hopt (by decide) (by unfold gNames; rw [hinn, decide_eq_true hs]; rfl) fun p W hp => gopts_short p r _ _ _ W hp (by omega)
        · rw [if_neg hs] at hopt
          rw [decide_eq_false hs] at hinn
          have hnm : gNames (b0 :: b1 :: b2 :: b3 :: b4 :: b5 :: b6 :: b7 :: r) = [gvWord] := by unfold gNames; rw [hinn]; rfl
          have hany : ∀ p W, Rdr W p r → _ := fun p W hp => gopts_any p r (4 * b0.toNat) (((b4.toNat * 256 + b5.toNat) * 256 + b6.toNat : Nat) : Int) (b1.toNat / 64 % 2 == 1) W hp (by omega) (by omega) hrL
          by_cases hok : ∃ l, ops (r.take (4 * b0.toNat)) = some l ∧ opCrit l = (b1.toNat / 64 % 2 == 1)
          · obtain ⟨lo, ho1, ho2⟩ := hok
            rw [ho1] at hopt
            have hopt0 : gOpt (b0 :: b1 :: b2 :: b3 :: b4 :: b5 :: b6 :: b7 :: r) = 0 := by rw [hopt]; exact if_pos ho2
            have hc := gcode_frame hhd hopt0
            rw [hrl, hsz] at hc
            have hyes : ∀ p W, Rdr W p r → Calls Tryd.prog 47 #[.pointer (some p), .agg #[.int .u32 (((b4.toNat * 256 + b5.toNat) * 256 + b6.toNat : Nat) : Int), .int .i64 ((4 * b0.toNat : Nat) : Int), .bool (b1.toNat / 64 % 2 == 1)]] W (LYes lo (r.drop (4 * b0.toNat)) p W) := fun p W hp => by
              refine (hany p W hp).mono ?_
              rintro e w' (⟨h, _⟩ | ⟨sv, lx, rfl, h1, _, h3, h4, h5⟩)
              · exact absurd ho2 (h lo ho1)
              · rw [ho1] at h1
                exact ⟨sv, lx, rfl, (Option.some.inj h1).symm, h3, h4, h5⟩
            have hdl : (r.drop (4 * b0.toNat)).length = r.length - 4 * b0.toNat := List.length_drop
            have hgo : gOps (b0 :: b1 :: b2 :: b3 :: b4 :: b5 :: b6 :: b7 :: r) = lo := by unfold gOps; rw [hmid, ho1]; rfl
            by_cases hfw : frameWrong (r.length - 4 * b0.toNat) = 0
            · exact (gdecap_good hr hLL rfl hh hyes (by rw [hdl]; omega) (by rw [hdl]; exact hfw)).mono fun e w' h => .inr ⟨by rw [hc, hfw], by rw [hid, hgo, hend]; exact h⟩
            · refine (gdecap_frame hr hLL hh hyes (by rw [hdl]; omega) (by rw [hdl]; exact hfw)).mono fun e w' h => .inl ⟨by rw [hc]; exact hfw, ?_⟩
              rw [hc, hnm, ← hdl]
              exact h
          · have hopt3 : gOpt (b0 :: b1 :: b2 :: b3 :: b4 :: b5 :: b6 :: b7 :: r) = 3 := by
              rw [hopt]
              cases ho : ops (r.take (4 * b0.toNat)) with
              | none => rfl
              | some l => exact if_neg fun h => hok ⟨l, ho, h⟩
            refine noopts 3 [] hopt3 (by decide) hnm fun p W hp => (hany p W hp).mono ?_
            rintro e w' (⟨_, h⟩ | ⟨sv, lx, rfl, h1, h2, _⟩)
            · exact h
            · exact absurd ⟨_, h1, h2⟩ hok
      · rw [if_neg ht] at hhd
        exact bad 12 hhd (by decide) fun p W hp => ghead_proto p b0 b1 b2 b3 b4 b5 b6 b7 r W hp (by omega) hf ht
end Go.Proofs.YtnjohgfhagoppaaDoor
