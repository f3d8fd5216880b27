/-
  What is proved: the document's Decap of layer 12 by contract, in words of bytes alone.
  Conditions: the bytes are fewer than 2^39.
-/
import Derived.Test.YtnjohgfhagoppaaDoorGvRefP
namespace Go.Proofs.YtnjohgfhagoppaaDoor
open Go.RowKit

theorem rgdecap_any (bs : List UInt8) (hL : bs.length ≤ 549755813888) (w : World) : Calls Tryd.prog 19 #[.string (txt bs)] w (RD bs w) := by
  have hsz := txt_size bs
  by_cases h8 : bs.length < 8
  · have hh : gHead bs = 2 := by unfold gHead; rw [if_pos h8]
    have hc : gCode bs = 2 := by rw [gcode_head (by rw [hh]; decide), hh]
    have hi : gInner bs = true := by unfold gInner; rw [decide_eq_true h8]; rfl
    have HE : Hid (∀ w', Below w.heap.size w w' → RD bs w (.returned (.tuple #[.int .u32 0, .slice none 0 0, .string ⟨#[]⟩, .int .i64 2, .bool true])) w') := fun w' hb => .inl ⟨by rw [hc]; decide, by rw [hc, hi]; rfl, hb⟩
    generalize txt bs = T at *
    have h8' : T.size < 8 := by omega
    generalize RD bs w = Q at *
    clear hsz h8 hL hh hc hi
    go_enter Tryd.func19, Tryd.ntmps19
    go_wp2_with fail
    (try simp only [Exit.inBlock, Exit.then])
    refine bodyPost_ret (results_tmp5 rfl _ _ _) rfl ?_
    exact HE.out _ (Below.refl _ _)
  · obtain ⟨b0, b1, b2, b3, b4, b5, b6, b7, r, rfl⟩ := eight (by omega : 8 ≤ bs.length)
    have hrl : (b0 :: b1 :: b2 :: b3 :: b4 :: b5 :: b6 :: b7 :: r).length - 8 = r.length := by simp
    have hrL : r.length ≤ 549755813888 := by simp at hL; omega
    have hn : (b0 :: b1 :: b2 :: b3 :: b4 :: b5 :: b6 :: b7 :: r).length = r.length + 8 := rfl
    have d8 : decide ((b0 :: b1 :: b2 :: b3 :: b4 :: b5 :: b6 :: b7 :: r).length < 8) = false := decide_eq_false h8
    have hhd : gHead (b0 :: b1 :: b2 :: b3 :: b4 :: b5 :: b6 :: b7 :: r) = if 64 ≤ b0.toNat ∨ 128 ≤ b1.toNat then 3 else if b2.toNat = 101 ∧ b3.toNat = 88 then 0 else 12 := by
      show (if _ then 2 else _) = _
      rw [if_neg h8]
      rfl
    have i0 := fun W => xtxt_index (b0 :: b1 :: b2 :: b3 :: b4 :: b5 :: b6 :: b7 :: r) 0 b0 rfl 0 rfl W
    have i1 := fun W => xtxt_index (b0 :: b1 :: b2 :: b3 :: b4 :: b5 :: b6 :: b7 :: r) 1 b1 rfl 1 rfl W
    have i2 := fun W => xtxt_index (b0 :: b1 :: b2 :: b3 :: b4 :: b5 :: b6 :: b7 :: r) 2 b2 rfl 2 rfl W
    have i3 := fun W => xtxt_index (b0 :: b1 :: b2 :: b3 :: b4 :: b5 :: b6 :: b7 :: r) 3 b3 rfl 3 rfl W
    rw [hn] at hsz
    have bad : ∀ k : Nat, gHead (b0 :: b1 :: b2 :: b3 :: b4 :: b5 :: b6 :: b7 :: r) = k → k ≠ 0 → ∀ w', Below w.heap.size w w' → RD (b0 :: b1 :: b2 :: b3 :: b4 :: b5 :: b6 :: b7 :: r) w (.returned (.tuple #[.int .u32 0, .slice none 0 0, .string ⟨#[]⟩, .int .i64 (k : Nat), .bool false])) w' := fun k hk h0 w' hb => by
      have hc := gcode_head (bs := b0 :: b1 :: b2 :: b3 :: b4 :: b5 :: b6 :: b7 :: r) (by rw [hk]; exact h0)
      have hi : gInner (b0 :: b1 :: b2 :: b3 :: b4 :: b5 :: b6 :: b7 :: r) = false := by unfold gInner; rw [d8, hk, decide_eq_false h0]; rfl
      exact .inl ⟨by rw [hc, hk]; exact h0, by rw [hc, hk, hi], hb⟩
    by_cases hf : 64 ≤ b0.toNat ∨ 128 ≤ b1.toNat
    · have HE := Lib.hid (bad 3 (by rw [hhd, if_pos hf]) (by decide))
      generalize txt (b0 :: b1 :: b2 :: b3 :: b4 :: b5 :: b6 :: b7 :: r) = T at *
      generalize RD (b0 :: b1 :: b2 :: b3 :: b4 :: b5 :: b6 :: b7 :: r) w = Q at *
      have hs1 : ¬ T.size < 8 := by omega
      by_cases h64 : 64 ≤ b0.toNat
      · have q0 : decide ((64 : Int) ≤ (b0.toNat : Int)) = true := decide_eq_true (by omega)
        clear bad hhd hrl hL hn d8 h8 hf
        go_enter Tryd.func19, Tryd.ntmps19
        go_wp2_with fail
        (try simp only [Exit.inBlock, Exit.then])
        refine bodyPost_ret (results_tmp5 rfl _ _ _) rfl ?_
        exact HE.out _ (Below.refl _ _)
      · have q0 : decide ((64 : Int) ≤ (b0.toNat : Int)) = false := decide_eq_false (by omega)
        have q1 : decide ((128 : Int) ≤ (b1.toNat : Int)) = true := decide_eq_true (by omega)
        clear bad hhd hrl hL hn d8 h8 hf
        go_enter Tryd.func19, Tryd.ntmps19
        go_wp2_with fail
        (try simp only [Exit.inBlock, Exit.then])
        refine bodyPost_ret (results_tmp5 rfl _ _ _) rfl ?_
        exact HE.out _ (Below.refl _ _)
    · rw [if_neg hf] at hhd
      have q0 : decide ((64 : Int) ≤ (b0.toNat : Int)) = false := decide_eq_false (by omega)
      have q1 : decide ((128 : Int) ≤ (b1.toNat : Int)) = false := decide_eq_false (by omega)
      by_cases ht : b2.toNat = 101 ∧ b3.toNat = 88
      · rw [if_pos ht] at hhd
        have hgsz : gSize (b0 :: b1 :: b2 :: b3 :: b4 :: b5 :: b6 :: b7 :: r) = 4 * b0.toNat := by show 4 * (b0.toNat % 64) = _; omega
        have hmid : gMid (b0 :: b1 :: b2 :: b3 :: b4 :: b5 :: b6 :: b7 :: r) = r.take (4 * b0.toNat) := by unfold gMid; rw [hgsz]; rfl
        have hend : gEnd (b0 :: b1 :: b2 :: b3 :: b4 :: b5 :: b6 :: b7 :: r) = r.drop (4 * b0.toNat) := by
          unfold gEnd
          rw [hgsz, Nat.add_comm]
          rfl
        have hcb : gCritBit (b0 :: b1 :: b2 :: b3 :: b4 :: b5 :: b6 :: b7 :: r) = (b1.toNat / 64 % 2 == 1) := rfl
        have hid : xId (b0 :: b1 :: b2 :: b3 :: b4 :: b5 :: b6 :: b7 :: r) = (b4.toNat * 256 + b5.toNat) * 256 + b6.toNat := rfl
        have hopt : gOpt (b0 :: b1 :: b2 :: b3 :: b4 :: b5 :: b6 :: b7 :: r) = if r.length < 4 * b0.toNat then 2 else match ops (r.take (4 * b0.toNat)) with
            | none => 3
            | some l => if opCrit l = (b1.toNat / 64 % 2 == 1) then 0 else 3 := by unfold gOpt; rw [hrl, hgsz, hmid, hcb]; rfl
        have hinn : gInner (b0 :: b1 :: b2 :: b3 :: b4 :: b5 :: b6 :: b7 :: r) = decide (r.length < 4 * b0.toNat) := by unfold gInner; rw [d8, hhd, hrl, hgsz]; rfl
        have hm : Int.tmod (b0.toNat : Int) 64 = (b0.toNat : Int) := by rw [Int.tmod_eq_emod_of_nonneg (by omega)]; omega
        by_cases hs : r.length < 4 * b0.toNat
        · rw [if_pos hs] at hopt
          have hc : gCode (b0 :: b1 :: b2 :: b3 :: b4 :: b5 :: b6 :: b7 :: r) = 2 := by rw [gcode_opt hhd (by rw [hopt]; decide), hopt]
          have HE : Hid (∀ w', Below w.heap.size w w' → RD (b0 :: b1 :: b2 :: b3 :: b4 :: b5 :: b6 :: b7 :: r) w (.returned (.tuple #[.int .u32 0, .slice none 0 0, .string ⟨#[]⟩, .int .i64 2, .bool true])) w') := fun w' hb => .inl ⟨by rw [hc]; decide, by rw [hc, hinn, decide_eq_true hs]; rfl, hb⟩
          have hs2 : (r.length : Int) + 8 - 8 < 4 * (b0.toNat : Int) := by omega
          have hs3 : (r.length : Int) < 4 * (b0.toNat : Int) := by omega
          have h101 : (b2.toNat : Int) = 101 := by omega
          have h88 : (b3.toNat : Int) = 88 := by omega
          have h64 : b0.toNat < 64 := by omega
          generalize txt (b0 :: b1 :: b2 :: b3 :: b4 :: b5 :: b6 :: b7 :: r) = T at *
          generalize RD (b0 :: b1 :: b2 :: b3 :: b4 :: b5 :: b6 :: b7 :: r) w = Q at *
          have hs1 : ¬ T.size < 8 := by omega
          clear bad hhd hrl hL hn d8 h8 hf ht hgsz hmid hend hcb hid hopt hinn hc hs
          go_enter Tryd.func19, Tryd.ntmps19
          go_wp2_with fail
          (try simp only [Exit.inBlock, Exit.then])
          refine bodyPost_ret (results_tmp5 rfl _ _ _) rfl ?_
          exact HE.out _ (Below.refl _ _)
        · rw [if_neg hs] at hopt
          rw [decide_eq_false hs] at hinn
          have hml : (r.take (4 * b0.toNat)).length = 4 * b0.toNat := by rw [List.length_take]; omega
          have hel : (r.drop (4 * b0.toNat)).length = r.length - 4 * b0.toNat := List.length_drop
          have x1 : (txt (b0 :: b1 :: b2 :: b3 :: b4 :: b5 :: b6 :: b7 :: r)).extract 8 (8 + 4 * b0.toNat) = txt (r.take (4 * b0.toNat)) := by rw [xtxt_mid, show 8 + 4 * b0.toNat - 8 = 4 * b0.toNat by omega]; rfl
          have x2 : (txt (b0 :: b1 :: b2 :: b3 :: b4 :: b5 :: b6 :: b7 :: r)).extract (8 + 4 * b0.toNat) (8 + (4 * b0.toNat + (r.drop (4 * b0.toNat)).length)) = txt (r.drop (4 * b0.toNat)) := by
            rw [xtxt_mid, ← List.drop_drop]
            congr 1
            exact List.take_of_length_le (by show (r.drop (4 * b0.toNat)).length ≤ _; omega)
          have x3 : (txt (b0 :: b1 :: b2 :: b3 :: b4 :: b5 :: b6 :: b7 :: r)).extract 4 7 = txt [b4, b5, b6] := by rw [xtxt_mid]; rfl
          have ho0 : ∀ l, ops (r.take (4 * b0.toNat)) = some l → opCrit l = (b1.toNat / 64 % 2 == 1) → gOpt (b0 :: b1 :: b2 :: b3 :: b4 :: b5 :: b6 :: b7 :: r) = 0 := fun l h1 h2 => by rw [hopt, h1]; exact if_pos h2
          have hfr : ∀ l, ops (r.take (4 * b0.toNat)) = some l → opCrit l = (b1.toNat / 64 % 2 == 1) → gCode (b0 :: b1 :: b2 :: b3 :: b4 :: b5 :: b6 :: b7 :: r) = frameWrong (r.drop (4 * b0.toNat)).length := fun l h1 h2 => by
            rw [gcode_frame hhd (ho0 l h1 h2), hrl, hgsz, hel]
          refine rgdecap_loop _ b0 b1 b2 b3 (r.take (4 * b0.toNat)) (r.drop (4 * b0.toNat)) w (by rw [hsz, hml, hel]; omega) hml (by omega) i0 i1 i2 i3 x1 x2 (by omega) (by omega) (by omega) (by omega) _ _ x3 (fun W => rnumber_any b4 b5 b6 W) _ (fun w' l h1 h2 h3 hb => ?_) (fun w' sv lx h1 h2 h3 hq hb => ?_) (fun w' h1 hb => ?_)
          · exact .inl ⟨by rw [hfr l h1 h2]; exact h3, by rw [hfr l h1 h2, hinn], hb⟩
          · refine .inr ⟨by rw [hfr _ h1 h2]; exact h3, sv, lx, by rw [hid, hend], ?_, hq, hb⟩
            unfold gOps
            rw [hmid, h1]
            rfl
          · have hopt3 : gOpt (b0 :: b1 :: b2 :: b3 :: b4 :: b5 :: b6 :: b7 :: r) = 3 := by
              rw [hopt]
              cases ho : ops (r.take (4 * b0.toNat)) with
              | none => rfl
              | some l => exact if_neg (h1 l ho)
            have hc : gCode (b0 :: b1 :: b2 :: b3 :: b4 :: b5 :: b6 :: b7 :: r) = 3 := by rw [gcode_opt hhd (by rw [hopt3]; decide), hopt3]
            exact .inl ⟨by rw [hc]; decide, by rw [hc, hinn]; rfl, hb⟩
      · rw [if_neg ht] at hhd
        have HE := Lib.hid (bad 12 hhd (by decide))
        generalize txt (b0 :: b1 :: b2 :: b3 :: b4 :: b5 :: b6 :: b7 :: r) = T at *
        generalize RD (b0 :: b1 :: b2 :: b3 :: b4 :: b5 :: b6 :: b7 :: r) w = Q at *
        have hs1 : ¬ T.size < 8 := by omega
        by_cases h101 : (b2.toNat : Int) = 101
        · have h88 : ¬ (b3.toNat : Int) = 88 := by omega
          clear bad hhd hrl hL hn d8 h8 hf ht
          go_enter Tryd.func19, Tryd.ntmps19
          go_wp2_with fail
          (try simp only [Exit.inBlock, Exit.then])
          refine bodyPost_ret (results_tmp5 rfl _ _ _) rfl ?_
          exact HE.out _ (Below.refl _ _)
        · clear bad hhd hrl hL hn d8 h8 hf ht
          go_enter Tryd.func19, Tryd.ntmps19
          go_wp2_with fail
          (try simp only [Exit.inBlock, Exit.then])
          refine bodyPost_ret (results_tmp5 rfl _ _ _) rfl ?_
          exact HE.out _ (Below.refl _ _)
end Go.Proofs.YtnjohgfhagoppaaDoor
