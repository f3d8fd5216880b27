/-
  What is proved: what Decap tells of what Encap made, whole, cut off, and with one byte that is another one: facts of lists of bytes.
  Conditions: the header's numbers fit their types.
-/
import Derived.Test.YtjnhfabgdegngaaDoorGrDecF
namespace Go.Proofs.YtjnhfabgdegngaaDoor
open Go.RowKit

/-- What the flags tell of. -/
def GH.norm (h : GH) : GH := ⟨h.s, h.k, if h.k then h.key else 0, h.q, if h.q then h.seq else 0⟩
theorem GH.norm_at (h : GH) : h.norm.at = h.at := rfl
theorem GH.norm_fit {h : GH} (hf : h.Fit) : h.norm.Fit := by
  constructor
  · show (if h.k then h.key else 0) < _; split; exact hf.key; decide
  · show (if h.q then h.seq else 0) < _; split; exact hf.seq; decide
theorem num4_be4 (n : Nat) (hn : n < 4294967296) (r : List UInt8) : num4 (be4 n ++ r) = n := by
  show ((((UInt8.ofNat (n / 16777216)).toNat * 256 + (UInt8.ofNat (n / 65536)).toNat) * 256 + (UInt8.ofNat (n / 256)).toNat) * 256 + (UInt8.ofNat n).toNat) = n
  rw [ofNat_lt, ofNat_lt, ofNat_lt, ofNat_lt]
  omega
/-- The first byte of a header, and the other three. -/
def GH.b0 (h : GH) : UInt8 := UInt8.ofNat (h.flags / 256)
theorem GH.first_eq (h : GH) : h.first = [h.b0, 0, 101, 88] := by
  have e0 : h.flags % 256 = 0 := by unfold GH.flags; split <;> split <;> split <;> rfl
  have e : UInt8.ofNat h.flags = 0 := UInt8.toNat_inj.1 (by rw [ofNat_lt, e0]; rfl)
  show [UInt8.ofNat (h.flags / 256), UInt8.ofNat h.flags, UInt8.ofNat (25944 / 256), UInt8.ofNat 25944] = _
  rw [e]
  rfl
theorem GH.b0_nat (h : GH) : h.b0.toNat = (if h.s then 128 else 0) + (if h.k then 32 else 0) + (if h.q then 16 else 0) := by
  unfold GH.b0 GH.flags
  rw [ofNat_lt]
  split <;> split <;> split <;> rfl
theorem GH.b0_s (h : GH) : gS h.b0 = h.s ∧ gK h.b0 = h.k ∧ gQ h.b0 = h.q ∧ gCode4 h.b0 0 101 88 = 0 := by
  have e := h.b0_nat
  unfold gS gK gQ gCode4 gOther
  rw [e]
  cases h.s <;> cases h.k <;> cases h.q <;> exact ⟨by simp, by simp, by simp, by simp⟩
/-- What stands behind the first four bytes. -/
def GH.rest (h : GH) (c : Nat) : List UInt8 := h.sumBytes c ++ (h.keyBytes ++ h.seqBytes)
theorem GH.bytes_eq (h : GH) (c : Nat) (l : List UInt8) : h.bytes c ++ l = h.b0 :: 0 :: 101 :: 88 :: (h.rest c ++ l) := by
  unfold GH.bytes GH.rest
  rw [GH.first_eq]
  simp
theorem gskip_sum (h : GH) (c : Nat) (r : List UInt8) : gskip h.s (h.sumBytes c ++ r) = r ∧ gfew h.s (h.sumBytes c ++ r) = false := by
  unfold gskip gfew GH.sumBytes
  cases h.s
  · exact ⟨rfl, rfl⟩
  · refine ⟨rfl, ?_⟩
    rw [if_pos rfl, Bool.true_and, decide_eq_false_iff_not]
    simp [grbe2_len]
    omega
theorem gskip_key (h : GH) (hf : h.Fit) (r : List UInt8) : gskip h.k (h.keyBytes ++ r) = r ∧ gfew h.k (h.keyBytes ++ r) = false ∧ gnum h.k (h.keyBytes ++ r) = h.norm.key := by
  have hn : h.norm.key = if h.k then h.key else 0 := rfl
  rw [hn]
  unfold gskip gfew gnum GH.keyBytes
  cases h.k
  · exact ⟨rfl, rfl, rfl⟩
  · refine ⟨rfl, ?_, num4_be4 _ hf.key _⟩
    rw [if_pos rfl, Bool.true_and, decide_eq_false_iff_not]
    simp [grbe4_len]
theorem gskip_seq (h : GH) (hf : h.Fit) (r : List UInt8) : gskip h.q (h.seqBytes ++ r) = r ∧ gfew h.q (h.seqBytes ++ r) = false ∧ gnum h.q (h.seqBytes ++ r) = h.norm.seq := by
  have hn : h.norm.seq = if h.q then h.seq else 0 := rfl
  rw [hn]
  unfold gskip gfew gnum GH.seqBytes
  cases h.q
  · exact ⟨rfl, rfl, rfl⟩
  · refine ⟨rfl, ?_, num4_be4 _ hf.seq _⟩
    rw [if_pos rfl, Bool.true_and, decide_eq_false_iff_not]
    simp [grbe4_len]
theorem grhdr_bytes (h : GH) (hf : h.Fit) (c : Nat) (l : List UInt8) : grFirst (h.bytes c ++ l) = 0 ∧ grEnds (h.bytes c ++ l) = false ∧ grHdr (h.bytes c ++ l) = h.norm ∧ grLeft (h.bytes c ++ l) = l := by
  rw [GH.bytes_eq]
  obtain ⟨e1, e2, e3, e4⟩ := h.b0_s
  have a1 := gskip_sum h c (h.keyBytes ++ (h.seqBytes ++ l))
  have a2 := gskip_key h hf (h.seqBytes ++ l)
  have a3 := gskip_seq h hf l
  have er : h.rest c ++ l = h.sumBytes c ++ (h.keyBytes ++ (h.seqBytes ++ l)) := by unfold GH.rest; simp
  rw [er]
  refine ⟨e4, ?_, ?_, ?_⟩
  · show gends (gS h.b0) (gK h.b0) (gQ h.b0) _ = false
    rw [e1, e2, e3]
    unfold gends
    rw [a1.1, a1.2, a2.1, a2.2.1, a3.2.1]
    rfl
  · show gfields (gS h.b0) (gK h.b0) (gQ h.b0) _ = _
    rw [e1, e2, e3]
    unfold gfields
    rw [a1.1, a2.1, a2.2.2, a3.2.2]
    rfl
  · show gleft (gS h.b0) (gK h.b0) (gQ h.b0) _ = _
    rw [e1, e2, e3]
    unfold gleft
    rw [a1.1, a2.1, a3.1]
theorem wsum8 (a0 a1 a2 a3 a4 a5 a6 a7 : UInt8) (r : List UInt8) : wsum true (a0 :: a1 :: a2 :: a3 :: a4 :: a5 :: a6 :: a7 :: r) = a0.toNat * 256 + a1.toNat + (a2.toNat * 256 + a3.toNat) + (a4.toNat * 256 + a5.toNat) + (a6.toNat * 256 + a7.toNat) + wsum true r := by
  simp only [wsum]
  omega
theorem wsum4 (a0 a1 a2 a3 : UInt8) (r : List UInt8) : wsum true (a0 :: a1 :: a2 :: a3 :: r) = a0.toNat * 256 + a1.toNat + (a2.toNat * 256 + a3.toNat) + wsum true r := by
  simp only [wsum]
  omega
/-- The sum of all bytes, with any sum in its place. -/
theorem wsum_bytes (h : GH) (hs : h.s = true) (c : Nat) (hc : c < 65536) (l : List UInt8) : wsum true (h.bytes c ++ l) = wsum true (h.bytes 0 ++ l) + c := by
  have e : ∀ d, h.bytes d ++ l = h.b0 :: 0 :: 101 :: 88 :: UInt8.ofNat (d / 256) :: UInt8.ofNat d :: 0 :: 0 :: (h.keyBytes ++ h.seqBytes ++ l) := by
    intro d
    rw [GH.bytes_eq]
    unfold GH.rest GH.sumBytes
    rw [if_pos hs]
    simp [be2]
  rw [e c, e 0, wsum8, wsum8, ofNat_lt (c / 256), ofNat_lt c, ofNat_lt (0 / 256)]
  omega
theorem wsum_pos (h : GH) (c : Nat) (l : List UInt8) : 0 < wsum true (h.bytes c ++ l) := by
  rw [GH.bytes_eq, wsum4]
  have : (101 : UInt8).toNat = 101 := rfl
  omega
/-- What Encap made is Valid. -/
theorem ck_pack (h : GH) (hs : h.s = true) (l : List UInt8) : ck (h.pack l) = 0 := by
  unfold GH.pack
  have hp := wsum_pos h 0 l
  have h1 := wsum_bytes h hs (ck (h.bytes 0 ++ l)) (by have := ck_le (h.bytes 0 ++ l); omega) l
  unfold ck at h1 ⊢
  rw [h1]
  generalize wsum true (h.bytes 0 ++ l) = N at *
  have hf := fold_le N
  have hm := fold_mod N
  have hz := fold_zero N
  have e : fold (N + (65535 - fold N)) = 65535 := by
    unfold fold
    rw [if_neg (by omega)]
    unfold fold at hf hm hz
    rw [if_neg (by omega)] at hf hm ⊢
    omega
  omega
theorem frame0 {n : Nat} (h1 : 14 ≤ n) (h2 : n ≤ 9000) : frameWrong n = 0 := by unfold frameWrong; rw [if_neg (by omega), if_neg (by omega)]
theorem grcode_of {bs : List UInt8} (h1 : grFirst bs = 0) (h2 : grEnds bs = false) (h3 : ¬ ((grHdr bs).s = true ∧ ck bs ≠ 0)) : grCode bs = frameWrong (grLeft bs).length := by
  unfold grCode
  rw [if_neg (by rw [h1]; decide), if_neg (by rw [h2]; decide), if_neg h3]
/-- What was put in comes out. -/
theorem grpack_back (h : GH) (hf : h.Fit) (l : List UInt8) : grCode (h.pack l) = frameWrong l.length ∧ grHdr (h.pack l) = h.norm ∧ grLeft (h.pack l) = l := by
  obtain ⟨a1, a2, a3, a4⟩ := grhdr_bytes h hf (ck (h.bytes 0 ++ l)) l
  refine ⟨?_, a3, a4⟩
  have := grcode_of (bs := h.pack l) a1 a2 (fun k => by
    have hs : h.s = true := by
      have := k.1
      rw [show grHdr (h.pack l) = h.norm from a3] at this
      exact this
    exact k.2 (ck_pack h hs l))
  rw [this, show grLeft (h.pack l) = l from a4]
/-- The fields end just where the flags say. -/
theorem gends_len (s k q : Bool) (r : List UInt8) : gends s k q r = decide (r.length < (if s then 4 else 0) + (if k then 4 else 0) + (if q then 4 else 0)) := by
  unfold gends gfew gskip
  rw [Bool.eq_iff_iff]
  cases s <;> cases k <;> cases q <;> simp <;> omega
theorem gleft_len (s k q : Bool) (r : List UInt8) (h : gends s k q r = false) : (gleft s k q r).length + ((if s then 4 else 0) + (if k then 4 else 0) + (if q then 4 else 0)) = r.length := by
  rw [gends_len, decide_eq_false_iff_not] at h
  unfold gleft gskip
  cases s <;> cases k <;> cases q <;> simp at h ⊢ <;> omega
/-- A header that came out. -/
theorem grhdr_fit (bs : List UInt8) : (grHdr bs).Fit ∧ (grHdr bs).norm = grHdr bs := by
  match bs with
  | [] => exact ⟨⟨Nat.zero_lt_succ _, Nat.zero_lt_succ _⟩, rfl⟩
  | [_] => exact ⟨⟨Nat.zero_lt_succ _, Nat.zero_lt_succ _⟩, rfl⟩
  | [_, _] => exact ⟨⟨Nat.zero_lt_succ _, Nat.zero_lt_succ _⟩, rfl⟩
  | [_, _, _] => exact ⟨⟨Nat.zero_lt_succ _, Nat.zero_lt_succ _⟩, rfl⟩
  | b0 :: b1 :: b2 :: b3 :: r =>
    have e : grHdr (b0 :: b1 :: b2 :: b3 :: r) = gfields (gS b0) (gK b0) (gQ b0) r := rfl
    rw [e]
    refine ⟨⟨gnum_lt _ _, gnum_lt _ _⟩, ?_⟩
    unfold GH.norm gfields gnum
    cases gK b0 <;> cases gQ b0 <;> rfl
theorem grleft_at {bs : List UInt8} (h : grEnds bs = false) : (grLeft bs).length + (grHdr bs).at = bs.length := by
  match bs, h with
  | b0 :: b1 :: b2 :: b3 :: r, h =>
    have h1 := gleft_len (gS b0) (gK b0) (gQ b0) r h
    have e1 : (grLeft (b0 :: b1 :: b2 :: b3 :: r)).length = (gleft (gS b0) (gK b0) (gQ b0) r).length := rfl
    have e2 : (grHdr (b0 :: b1 :: b2 :: b3 :: r)).at = 4 + (if gS b0 then 4 else 0) + (if gK b0 then 4 else 0) + (if gQ b0 then 4 else 0) := rfl
    rw [e1, e2]
    simp only [List.length_cons]
    omega
theorem grends_of {bs : List UInt8} (h : grCode bs = 0) : grEnds bs = false := by
  unfold grCode at h
  by_cases h1 : grFirst bs ≠ 0
  · rw [if_pos h1] at h; exact absurd h h1
  · rw [if_neg h1] at h
    by_cases h2 : grEnds bs = true
    · rw [if_pos h2] at h; cases h
    · simpa using h2
theorem grframe_of {bs : List UInt8} (h : grCode bs = 0) : frameWrong (grLeft bs).length = 0 := by
  unfold grCode at h
  by_cases h1 : grFirst bs ≠ 0
  · rw [if_pos h1] at h; exact absurd h h1
  · rw [if_neg h1] at h
    by_cases h2 : grEnds bs = true
    · rw [if_pos h2] at h; cases h
    · rw [if_neg h2] at h
      by_cases h3 : (grHdr bs).s = true ∧ ck bs ≠ 0
      · rw [if_pos h3] at h; cases h
      · rw [if_neg h3] at h; exact h
/-- One byte that is another one turns the sum of all by that byte's part. -/
theorem wsum_set : ∀ (b : Bool) (bs : List UInt8) (i : Nat) (x y : UInt8), bs[i]? = some x → ∃ m, (m = 1 ∨ m = 256) ∧ wsum b (bs.set i y) + m * x.toNat = wsum b bs + m * y.toNat
  | b, [], i, x, y, h => by simp at h
  | true, z :: r, 0, x, y, h => by
    obtain rfl : z = x := by simpa using h
    exact ⟨256, .inr rfl, by simp only [List.set_cons_zero, wsum]; omega⟩
  | false, z :: r, 0, x, y, h => by
    obtain rfl : z = x := by simpa using h
    exact ⟨1, .inl rfl, by simp only [List.set_cons_zero, wsum]; omega⟩
  | true, z :: r, i + 1, x, y, h => by
    obtain ⟨m, hm, e⟩ := wsum_set false r i x y (by simpa using h)
    exact ⟨m, hm, by simp only [List.set_cons_succ, wsum]; omega⟩
  | false, z :: r, i + 1, x, y, h => by
    obtain ⟨m, hm, e⟩ := wsum_set true r i x y (by simpa using h)
    exact ⟨m, hm, by simp only [List.set_cons_succ, wsum]; omega⟩
theorem ck_set {bs : List UInt8} {i : Nat} {x y : UInt8} (h : bs[i]? = some x) (hxy : x ≠ y) (h0 : ck bs = 0) : ck (bs.set i y) ≠ 0 := by
  obtain ⟨m, hm, e⟩ := wsum_set true bs i x y h
  have hne : x.toNat ≠ y.toNat := fun k => hxy (UInt8.toNat_inj.1 k)
  have lx := x.toNat_lt
  have ly := y.toNat_lt
  intro h1
  unfold ck at h0 h1
  generalize wsum true bs = N at *
  generalize wsum true (bs.set i y) = M at *
  have a := fold_mod N
  have b := fold_mod M
  have c := fold_le N
  have d := fold_le M
  rcases hm with rfl | rfl <;> omega
/-- With a sum: one byte behind the first four that is another one. -/
theorem grsum_code (h : GH) (hf : h.Fit) (hs : h.s = true) (l : List UInt8) (i : Nat) (x y : UInt8) (hi : (h.pack l)[i + 4]? = some x) (hxy : x ≠ y) : grCode ((h.pack l).set (i + 4) y) = 4 := by
  have hck := ck_set hi hxy (ck_pack h hs l)
  obtain ⟨a1, a2, a3, _⟩ := grhdr_bytes h hf (ck (h.bytes 0 ++ l)) l
  have e : (h.pack l).set (i + 4) y = h.b0 :: 0 :: 101 :: 88 :: ((h.rest (ck (h.bytes 0 ++ l)) ++ l).set i y) := by
    unfold GH.pack
    rw [GH.bytes_eq]
    rfl
  have e2 : h.bytes (ck (h.bytes 0 ++ l)) ++ l = h.b0 :: 0 :: 101 :: 88 :: (h.rest (ck (h.bytes 0 ++ l)) ++ l) := GH.bytes_eq ..
  rw [e2] at a1 a2 a3
  have b1 : grFirst ((h.pack l).set (i + 4) y) = 0 := by rw [e]; exact a1
  have b2 : grEnds ((h.pack l).set (i + 4) y) = false := by
    rw [e]
    have k : gends (gS h.b0) (gK h.b0) (gQ h.b0) (h.rest (ck (h.bytes 0 ++ l)) ++ l) = false := a2
    show gends (gS h.b0) (gK h.b0) (gQ h.b0) _ = false
    rw [gends_len] at k ⊢
    rw [List.length_set]
    exact k
  have b3 : (grHdr ((h.pack l).set (i + 4) y)).s = true := by
    rw [e]
    show gS h.b0 = true
    rw [h.b0_s.1, hs]
  unfold grCode
  rw [if_neg (by rw [b1]; decide), if_neg (by rw [b2]; decide), if_pos ⟨b3, hck⟩]
/-- Without a sum: what is cut off. -/
theorem grcut_long (h : GH) (c : Nat) (l : List UInt8) (m : Nat) : (h.bytes c ++ l).take (h.at + m) = h.bytes c ++ l.take m := by
  rw [List.take_append, GH.bytes_len, List.take_of_length_le (by rw [GH.bytes_len]; omega), Nat.add_sub_cancel_left]
theorem grcut_short (h : GH) (hs : h.s = false) (hf : h.Fit) (c : Nat) (l : List UInt8) (n : Nat) (hn : n < h.at + 14) (hl : n ≤ h.at + l.length) : grCode ((h.bytes c ++ l).take n) = 2 := by
  have hlen : ((h.bytes c ++ l).take n).length = n := by rw [List.length_take, List.length_append, GH.bytes_len]; omega
  by_cases h1 : h.at ≤ n
  · obtain ⟨m, rfl⟩ : ∃ m, n = h.at + m := ⟨n - h.at, by omega⟩
    rw [grcut_long]
    obtain ⟨a1, a2, a3, a4⟩ := grhdr_bytes h hf c (l.take m)
    rw [grcode_of a1 a2 (fun k => by have := k.1; rw [a3] at this; have e : h.s = true := this; rw [hs] at e; cases e), a4]
    have : (l.take m).length = m := by rw [List.length_take]; omega
    unfold frameWrong
    rw [if_pos (by omega)]
  · by_cases h4 : n < 4
    · have e1 : grFirst ((h.bytes c ++ l).take n) = 0 ∧ grEnds ((h.bytes c ++ l).take n) = true := by
        rw [GH.bytes_eq]
        match n, h4 with
        | 0, _ => exact ⟨rfl, rfl⟩
        | 1, _ => exact ⟨rfl, rfl⟩
        | 2, _ => exact ⟨rfl, rfl⟩
        | 3, _ => exact ⟨rfl, rfl⟩
      unfold grCode
      rw [if_neg (by rw [e1.1]; decide), if_pos e1.2]
    · obtain ⟨m, rfl⟩ : ∃ m, n = m + 4 := ⟨n - 4, by omega⟩
      rw [GH.bytes_eq] at hlen ⊢
      obtain ⟨e1, e2, e3, e4⟩ := h.b0_s
      have b1 : grFirst ((h.b0 :: 0 :: 101 :: 88 :: (h.rest c ++ l)).take (m + 4)) = 0 := e4
      have b2 : grEnds ((h.b0 :: 0 :: 101 :: 88 :: (h.rest c ++ l)).take (m + 4)) = true := by
        show gends (gS h.b0) (gK h.b0) (gQ h.b0) ((h.rest c ++ l).take m) = true
        have hm : ((h.rest c ++ l).take m).length = m := by simpa using hlen
        rw [gends_len, hm, decide_eq_true_iff, e1, e2, e3]
        have e : h.at = 4 + (if h.s then 4 else 0) + (if h.k then 4 else 0) + (if h.q then 4 else 0) := rfl
        omega
      unfold grCode
      rw [if_neg (by rw [b1]; decide), if_pos b2]
theorem grcut_ok (h : GH) (hs : h.s = false) (hf : h.Fit) (c : Nat) (l : List UInt8) : grCode (h.bytes c ++ l) = frameWrong l.length ∧ grLeft (h.bytes c ++ l) = l := by
  obtain ⟨a1, a2, a3, a4⟩ := grhdr_bytes h hf c l
  rw [grcode_of a1 a2 (fun k => by have := k.1; rw [a3] at this; have e : h.s = true := this; rw [hs] at e; cases e), a4]
  exact ⟨rfl, rfl⟩
end Go.Proofs.YtjnhfabgdegngaaDoor
