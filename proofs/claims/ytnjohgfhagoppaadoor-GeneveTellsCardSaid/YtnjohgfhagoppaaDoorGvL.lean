/-
  What is proved: options of a Geneve header in words of their own: sizes, bytes, what bytes say.
  Conditions: none of its own.
-/
import Derived.Test.YtnjohgfhagoppaaDoorKxIO
namespace Go.Proofs.YtnjohgfhagoppaaDoor
open Go.RowKit

structure Op where
  c : Nat
  t : Nat
  b : List UInt8
def Op.Fit (o : Op) : Prop := o.c < 65536 ∧ o.t < 256
def Op.good (o : Op) : Bool := o.b.length % 4 == 0 && decide (o.b.length ≤ 124)
def opSize : List Op → Nat
  | [] => 0
  | o :: l => 4 + o.b.length + opSize l
def opAll (l : List Op) : Bool := l.all Op.good
def opRight (l : List Op) : Nat := if opAll l then (if opSize l ≤ 252 then 0 else 7) else 1
def opCrit (l : List Op) : Bool := l.any fun o => decide (128 ≤ o.t)
def Op.bytes (o : Op) : List UInt8 := be2 o.c ++ [UInt8.ofNat o.t] ++ [UInt8.ofNat (o.b.length / 4)] ++ o.b
def opBytes (l : List Op) : List UInt8 := l.flatMap Op.bytes
theorem opSize_append (l m : List Op) : opSize (l ++ m) = opSize l + opSize m := by
  induction l with
  | nil => simp [opSize]
  | cons o l ih => rw [List.cons_append, opSize, opSize, ih]; omega
theorem op_bytes_len (o : Op) : o.bytes.length = 4 + o.b.length := by unfold Op.bytes be2; simp; omega
theorem opBytes_len (l : List Op) : (opBytes l).length = opSize l := by
  induction l with
  | nil => rfl
  | cons o l ih => show (o.bytes ++ opBytes l).length = _; rw [List.length_append, ih, op_bytes_len]; rfl
theorem opSize_le (l : List Op) (h : opAll l = true) : opSize l ≤ 128 * l.length := by
  induction l with
  | nil => simp [opSize]
  | cons o l ih =>
    unfold opAll at h
    simp only [List.all_cons, Bool.and_eq_true] at h
    have h1 := h.1
    unfold Op.good at h1
    simp only [Bool.and_eq_true, decide_eq_true_eq] at h1
    have := ih h.2
    rw [opSize, List.length_cons]
    omega
theorem opSize_four (l : List Op) (h : opAll l = true) : opSize l % 4 = 0 := by
  induction l with
  | nil => simp [opSize]
  | cons o l ih =>
    unfold opAll at h
    simp only [List.all_cons, Bool.and_eq_true] at h
    have h1 := h.1
    unfold Op.good at h1
    simp only [Bool.and_eq_true, beq_iff_eq] at h1
    have := ih h.2
    rw [opSize]
    omega

/-- The first option that bytes say, and what is left. -/
def opParse : Nat → List UInt8 → Option (List Op)
  | _, [] => some []
  | n + 1, b0 :: b1 :: b2 :: b3 :: r => if 32 ≤ b3.toNat ∨ r.length < 4 * b3.toNat then none else (opParse n (r.drop (4 * b3.toNat))).map fun l => ⟨b0.toNat * 256 + b1.toNat, b2.toNat, r.take (4 * b3.toNat)⟩ :: l
  | _, _ => none
/-- The options that bytes say. -/
def ops (bs : List UInt8) : Option (List Op) := opParse bs.length bs
theorem opParse_fuel : ∀ (n m : Nat) (bs : List UInt8), bs.length ≤ n → bs.length ≤ m → opParse n bs = opParse m bs
  | 0, 0, _, _, _ => rfl
  | 0, m + 1, bs, h, _ => by
    have : bs = [] := List.eq_nil_of_length_eq_zero (by omega)
    subst this
    rfl
  | n + 1, 0, bs, _, h => by
    have : bs = [] := List.eq_nil_of_length_eq_zero (by omega)
    subst this
    rfl
  | n + 1, m + 1, [], _, _ => rfl
  | n + 1, m + 1, [_], _, _ => rfl
  | n + 1, m + 1, [_, _], _, _ => rfl
  | n + 1, m + 1, [_, _, _], _, _ => rfl
  | n + 1, m + 1, b0 :: b1 :: b2 :: b3 :: r, h1, h2 => by
    show (if _ then none else _) = (if _ then none else _)
    simp only [List.length_cons] at h1 h2
    rw [opParse_fuel n m (r.drop (4 * b3.toNat)) (by rw [List.length_drop]; omega) (by rw [List.length_drop]; omega)]
theorem ops_nil : ops [] = some [] := rfl
theorem ops_cons (b0 b1 b2 b3 : UInt8) (r : List UInt8) : ops (b0 :: b1 :: b2 :: b3 :: r) = if 32 ≤ b3.toNat ∨ r.length < 4 * b3.toNat then none else (ops (r.drop (4 * b3.toNat))).map fun l => ⟨b0.toNat * 256 + b1.toNat, b2.toNat, r.take (4 * b3.toNat)⟩ :: l := by
  unfold ops
  show (if _ then none else _) = _
  rw [opParse_fuel (b1 :: b2 :: b3 :: r).length (r.drop (4 * b3.toNat)).length (r.drop (4 * b3.toNat)) (by rw [List.length_drop]; simp only [List.length_cons]; omega) (Nat.le_refl _)]
theorem ops_few {bs : List UInt8} (h0 : 0 < bs.length) (h : bs.length < 4) : ops bs = none := by
  match bs, h0, h with
  | [_], _, _ => rfl
  | [_, _], _, _ => rfl
  | [_, _, _], _, _ => rfl
/-- What bytes say is right, but for how much it is. -/
theorem ops_good : ∀ (n : Nat) (bs : List UInt8), bs.length ≤ n → ∀ l, ops bs = some l → opAll l = true ∧ (∀ o ∈ l, o.Fit) ∧ opSize l = bs.length ∧ opBytes l = bs
  | 0, bs, hn, l, h => by
    have : bs = [] := List.eq_nil_of_length_eq_zero (by omega)
    subst this
    cases h
    exact ⟨rfl, fun _ h => (by cases h), rfl, rfl⟩
  | n + 1, bs, hn, l, h => by
    by_cases h0 : bs.length = 0
    · have : bs = [] := List.eq_nil_of_length_eq_zero h0
      subst this
      cases h
      exact ⟨rfl, fun _ h => (by cases h), rfl, rfl⟩
    · by_cases h4 : bs.length < 4
      · rw [ops_few (by omega) h4] at h; cases h
      · obtain ⟨b0, b1, b2, b3, r, rfl⟩ := four (by omega : 4 ≤ bs.length)
        rw [ops_cons] at h
        by_cases hc : 32 ≤ b3.toNat ∨ r.length < 4 * b3.toNat
        · rw [if_pos hc] at h; cases h
        · rw [if_neg hc] at h
          obtain ⟨m, hm, rfl⟩ := Option.map_eq_some_iff.1 h
          simp only [List.length_cons] at hn
          obtain ⟨k1, k2, k3, k4⟩ := ops_good n _ (by rw [List.length_drop]; omega) m hm
          have l0 := b0.toNat_lt
          have l1 := b1.toNat_lt
          have l2 := b2.toNat_lt
          have ht : (r.take (4 * b3.toNat)).length = 4 * b3.toNat := by rw [List.length_take]; omega
          refine ⟨?_, ?_, ?_, ?_⟩
          · unfold opAll at k1 ⊢
            rw [List.all_cons, k1, Bool.and_true]
            unfold Op.good
            simp only [ht]
            simp
            omega
          · intro o ho
            rcases List.mem_cons.1 ho with rfl | ho
            · exact ⟨by show _ * 256 + _ < _; omega, l2⟩
            · exact k2 o ho
          · rw [opSize, k3, List.length_drop]
            simp only [ht, List.length_cons]
            omega
          · show Op.bytes _ ++ opBytes m = _
            rw [k4]
            unfold Op.bytes be2
            simp only [ht]
            have e1 : UInt8.ofNat ((b0.toNat * 256 + b1.toNat) / 256) = b0 := by apply UInt8.toNat_inj.1; rw [ofNat_lt]; omega
            have e2 : UInt8.ofNat (b0.toNat * 256 + b1.toNat) = b1 := by apply UInt8.toNat_inj.1; rw [ofNat_lt]; omega
            have e3 : UInt8.ofNat b2.toNat = b2 := by apply UInt8.toNat_inj.1; rw [ofNat_lt]; omega
            have e4 : UInt8.ofNat (4 * b3.toNat / 4) = b3 := by apply UInt8.toNat_inj.1; rw [ofNat_lt]; have := b3.toNat_lt; omega
            rw [e1, e2, e3, e4]
            simp
/-- What options' bytes say. -/
theorem ops_back : ∀ (l : List Op), opAll l = true → (∀ o ∈ l, o.Fit) → ops (opBytes l) = some l
  | [], _, _ => rfl
  | o :: l, h, hf => by
    unfold opAll at h
    simp only [List.all_cons, Bool.and_eq_true] at h
    have h1 := h.1
    unfold Op.good at h1
    simp only [Bool.and_eq_true, decide_eq_true_eq, beq_iff_eq] at h1
    have ih := ops_back l h.2 (fun x hx => hf x (List.mem_cons_of_mem _ hx))
    obtain ⟨f1, f2⟩ := hf o List.mem_cons_self
    have e : opBytes (o :: l) = UInt8.ofNat (o.c / 256) :: UInt8.ofNat o.c :: UInt8.ofNat o.t :: UInt8.ofNat (o.b.length / 4) :: (o.b ++ opBytes l) := by
      show Op.bytes o ++ opBytes l = _
      unfold Op.bytes be2
      simp
    rw [e, ops_cons]
    have hs : 4 * (UInt8.ofNat (o.b.length / 4)).toNat = o.b.length := by rw [ofNat_lt]; omega
    rw [hs, List.drop_left, List.take_left, ih, if_neg (by rw [ofNat_lt, List.length_append]; omega)]
    show some (_ :: l) = _
    congr 2
    obtain ⟨c, t, b⟩ := o
    simp only [Op.mk.injEq, and_true]
    constructor
    · rw [ofNat_lt, ofNat_lt]; simp only at f1; omega
    · rw [ofNat_lt]; simp only at f2; omega

/-- The header's bytes ahead of the options. -/
def gFirst (n : Nat) (crit : Bool) : Nat := n / 4 * 16777216 + (if crit then 4194304 else 0) + 25944
def gHd (id n : Nat) (crit : Bool) : List UInt8 := be4 (gFirst n crit) ++ be4 (id * 256)
theorem gHd_len (id n : Nat) (crit : Bool) : (gHd id n crit).length = 8 := rfl
/-- What Encap tells: 0 if it puts the frame in. -/
def geCode (id : Nat) (l : List Op) (n : Nat) : Nat := if 16777216 ≤ id then 1 else if opRight l = 0 then frameWrong n else opRight l
def gPut (id : Nat) (l : List Op) (f : List UInt8) : List UInt8 := gHd id (opSize l) (opCrit l) ++ opBytes l ++ f
/-- What Decap tells: 0 if a frame comes out. -/
def gSize (bs : List UInt8) : Nat := 4 * ((bs.getD 0 0).toNat % 64)
def gMid (bs : List UInt8) : List UInt8 := (bs.drop 8).take (gSize bs)
def gOps (bs : List UInt8) : List Op := (ops (gMid bs)).getD []
def gEnd (bs : List UInt8) : List UInt8 := bs.drop (8 + gSize bs)
def gHead (bs : List UInt8) : Nat := if bs.length < 8 then 2 else if 64 ≤ (bs.getD 0 0).toNat ∨ 128 ≤ (bs.getD 1 0).toNat then 3 else if (bs.getD 2 0).toNat = 101 ∧ (bs.getD 3 0).toNat = 88 then 0 else 12
def gCritBit (bs : List UInt8) : Bool := (bs.getD 1 0).toNat / 64 % 2 == 1
/-- What is wrong with the options: 2 where bytes are lacking, 3 else. -/
def gOpt (bs : List UInt8) : Nat := if bs.length - 8 < gSize bs then 2 else match ops (gMid bs) with
  | none => 3
  | some l => if opCrit l = gCritBit bs then 0 else 3
def gCode (bs : List UInt8) : Nat := if gHead bs = 0 then (if gOpt bs = 0 then frameWrong (bs.length - 8 - gSize bs) else gOpt bs) else gHead bs
/-- Is the error told by octets? -/
def gInner (bs : List UInt8) : Bool := decide (bs.length < 8) || (decide (gHead bs = 0) && decide (bs.length - 8 < gSize bs))
end Go.Proofs.YtnjohgfhagoppaaDoor
