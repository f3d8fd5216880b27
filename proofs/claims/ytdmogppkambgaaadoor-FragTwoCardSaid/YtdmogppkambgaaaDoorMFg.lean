/-
  What is proved: a packet's parts, and what parts make a packet again (no program's text).
  Conditions: none.
  What is proved: the parts of a right packet are right, fit, and lie one behind the other; parts parted again for the same mtu; a byte turned (no program's text).
  Conditions: the mtu is 68 at least.
  What is proved: what a reassembler does to its heaps, as a relation; the parts of one packet in any order (no program's text).
  Conditions: none.
  What is proved: 'few' of the laws of layer 5 by contract: the packet with at most its first three thousand bytes, in a row of its own.
  Conditions: the bytes' capacity is an int.
  What is proved: nothing of a program: what the laws of layer 10 ask of package frag, as one structure of contracts (FgOk), and words for it.
  Conditions: none.
  What is proved: words for laws of layer 10 that begin with a packet that is no part.
  Conditions: none.
  What is proved: ten parts of unlike packets, one that is no part, and one that is whole with a second (no program's text).
  Conditions: none.
  What is proved: a well-formed uint64 lies in its range.
-/
import Derived.Test.YtdmogppkambgaaaDoorVPkt
import Derived.Test.YtdmogppkambgaaaDoorVShown
import Derived.Test.YtdmogppkambgaaaDoorVLift
import Derived.Lib.SlBytesConst
namespace Go.Proofs.YtdmogppkambgaaaDoor

/-- What parts of one packet have in common. -/
def Ip.key4 (p : Ip) : Nat × Nat × Nat × Nat := (p.src, p.dst, p.proto, p.id)
/-- How many bytes a part has, of an mtu. -/
def szOf (mtu : Int) : Nat := ((mtu - 20) / 8 * 8).toNat
theorem szOf_facts {mtu : Int} (h : 68 ≤ mtu) : 48 ≤ szOf mtu ∧ szOf mtu % 8 = 0 ∧ (szOf mtu : Int) ≤ mtu - 20 := by
  unfold szOf
  omega
/-- The part of a packet from one of its bytes on. -/
def seg (p : Ip) (a n : Nat) : Ip := { p with off := p.off + a, mf := p.mf || decide (a + n < p.b.length), b := (p.b.drop a).take n }
section
variable {p : Ip} {a n c k s : Nat}
theorem seg_len : (seg p a n).b.length = min n (p.b.length - a) := by simp [seg]
theorem seg_len_in (h : a + n ≤ p.b.length) : (seg p a n).b.length = n := by rw [seg_len]; omega
theorem seg_min (h : p.b.length ≤ a + n) : seg p a n = seg p a (p.b.length - a) := by
  have e1 : (p.b.drop a).take n = (p.b.drop a).take (p.b.length - a) := by
    rw [List.take_of_length_le (by rw [List.length_drop]; omega), List.take_of_length_le (by rw [List.length_drop]; omega)]
  have e2 : decide (a + n < p.b.length) = decide (a + (p.b.length - a) < p.b.length) := by
    rw [decide_eq_false (by omega), decide_eq_false (by omega)]
  unfold seg
  rw [e1, e2]
theorem seg_all (p : Ip) : seg p 0 p.b.length = p := by simp [seg]
theorem seg_seg (h1 : a + n ≤ p.b.length) (h2 : c + k ≤ n) : seg (seg p a n) c k = seg p (a + c) k := by
  have hl := seg_len_in h1
  have e1 : (((p.b.drop a).take n).drop c).take k = (p.b.drop (a + c)).take k := by
    rw [List.drop_take, List.take_take, List.drop_drop, Nat.min_eq_left (by omega)]
  have e2 : ((p.mf || decide (a + n < p.b.length)) || decide (c + k < n)) = (p.mf || decide (a + c + k < p.b.length)) := by
    rw [Bool.or_assoc]
    congr 1
    rw [← Bool.decide_or]
    exact decide_eq_decide.2 ⟨fun h => by omega, fun h => by omega⟩
  unfold seg at hl ⊢
  simp only at hl
  simp only [hl, e1, e2]
  congr 1
  omega
end
/-- How many parts there are. -/
def cntOf (L s : Nat) : Nat := (L + s - 1) / s
/-- The parts of a packet. -/
def cuts (p : Ip) (s : Nat) : List Ip := (List.range (cntOf p.b.length s)).map fun i => seg p (i * s) s
/-- What Split tells, where nothing is wrong. -/
def splitL (p : Ip) (mtu : Int) : List Ip := if 20 + (p.b.length : Int) ≤ mtu then [p] else cuts p (szOf mtu)
theorem cntOf_iff {L s k : Nat} (hs : 0 < s) : k < cntOf L s ↔ k * s < L := by
  unfold cntOf
  rw [Nat.lt_div_iff_mul_lt hs]
  omega

/-! ### Parts one behind the other -/
def Tile (p : Ip) : Nat → List Ip → Prop
  | a, [] => a = p.b.length
  | a, x :: l => ∃ n, 0 < n ∧ a + n ≤ p.b.length ∧ x = seg p a n ∧ Tile p (a + n) l
theorem tile_from (p : Ip) {s : Nat} (hs : 0 < s) : ∀ (m i : Nat), i + m = cntOf p.b.length s → (i * s < p.b.length ∨ m = 0) → Tile p (min (i * s) p.b.length) ((List.range' i m).map fun i => seg p (i * s) s)
  | 0, i, h, _ => by
    have h3 : ¬ i * s < p.b.length := fun h4 => by
      have := (cntOf_iff (L := p.b.length) (k := i) hs).2 h4
      omega
    show min (i * s) p.b.length = p.b.length
    omega
  | m + 1, i, h, h1 => by
    have h2 : i * s < p.b.length := (cntOf_iff hs).1 (by omega)
    rw [Nat.min_eq_left (by omega), List.range'_succ, List.map_cons]
    have ih := tile_from p hs m (i + 1) (by omega) (by
      by_cases e : m = 0
      · exact .inr e
      · exact .inl ((cntOf_iff hs).1 (by omega)))
    rw [Nat.succ_mul] at ih
    by_cases hl : i * s + s ≤ p.b.length
    · exact ⟨s, hs, hl, rfl, by rw [Nat.min_eq_left hl] at ih; exact ih⟩
    · refine ⟨p.b.length - i * s, by omega, by omega, seg_min (by omega), ?_⟩
      rw [Nat.min_eq_right (by omega)] at ih
      rw [show i * s + (p.b.length - i * s) = p.b.length by omega]
      exact ih
theorem cuts_tile (p : Ip) {s : Nat} (hs : 0 < s) : Tile p 0 (cuts p s) := by
  have h := tile_from p hs (cntOf p.b.length s) 0 (by omega) (by
    by_cases e : cntOf p.b.length s = 0
    · exact .inr e
    · exact .inl ((cntOf_iff hs).1 (by omega)))
  rw [Nat.zero_mul, Nat.zero_min] at h
  unfold cuts
  rw [List.range_eq_range']
  exact h
theorem splitL_tile (p : Ip) {mtu : Int} (hm : 68 ≤ mtu) (hb : p.b ≠ []) : Tile p 0 (splitL p mtu) := by
  have hl : 0 < p.b.length := List.length_pos_iff.2 hb
  unfold splitL
  split
  · exact ⟨p.b.length, hl, by omega, (seg_all p).symm, by show 0 + p.b.length = p.b.length; omega⟩
  · exact cuts_tile p (by have := szOf_facts hm; omega)
theorem Tile.join {p : Ip} {a n : Nat} {rest : List Ip} (h1 : a + n ≤ p.b.length) (hr : Tile p (a + n) rest) : ∀ (l : List Ip) (c : Nat), c ≤ n → Tile (seg p a n) c l → Tile p (a + c) (l ++ rest)
  | [], c, _, h => by
    have e : c = (seg p a n).b.length := h
    rw [seg_len_in h1] at e
    subst e
    exact hr
  | x :: l, c, hc, ⟨k, h2, h3, hxe, h4⟩ => by
    subst hxe
    rw [seg_len_in h1] at h3
    refine ⟨k, h2, by omega, seg_seg h1 h3, ?_⟩
    have := Tile.join h1 hr l (c + k) (by omega) h4
    rw [← Nat.add_assoc] at this
    exact this
theorem Tile.refine {p : Ip} {f : Ip → List Ip} : ∀ (l : List Ip) (a : Nat), Tile p a l → (∀ x ∈ l, Tile x 0 (f x)) → Tile p a (l.flatMap f)
  | [], _, h, _ => h
  | x :: l, a, ⟨n, h1, h2, hxe, h3⟩, hf => by
    subst hxe
    rw [List.flatMap_cons]
    have ih := Tile.refine l (a + n) h3 (fun y hy => hf y (List.mem_cons_of_mem _ hy))
    exact Tile.join h2 ih _ 0 (Nat.zero_le _) (hf _ (List.mem_cons_self ..))
/-- Each is a part of the packet, with its own place. -/
theorem Tile.mem {p : Ip} : ∀ {l : List Ip} {a : Nat} {x : Ip}, Tile p a l → x ∈ l → ∃ c n, a ≤ c ∧ 0 < n ∧ c + n ≤ p.b.length ∧ x = seg p c n
  | [], _, _, _, h => by cases h
  | y :: l, a, x, ⟨n, h1, h2, hxe, h3⟩, h => by
    subst hxe
    rcases List.mem_cons.1 h with rfl | h
    · exact ⟨a, n, Nat.le_refl _, h1, h2, rfl⟩
    · obtain ⟨c, m, k1, k2, k3, k4⟩ := Tile.mem h3 h
      exact ⟨c, m, by omega, k2, k3, k4⟩
/-- Each place is in one part alone. -/
theorem Tile.at {p : Ip} : ∀ {l : List Ip} {a k : Nat}, Tile p a l → a ≤ k → k < p.b.length → ∃ c n, c ≤ k ∧ k < c + n ∧ c + n ≤ p.b.length ∧ seg p c n ∈ l
  | [], a, k, h, h1, h2 => by
    have e : a = p.b.length := h
    omega
  | x :: l, a, k, ⟨n, h1, h2, hxe, h3⟩, k1, k2 => by
    subst hxe
    by_cases hk : k < a + n
    · exact ⟨a, n, k1, hk, h2, List.mem_cons_self ..⟩
    · obtain ⟨c, m, j1, j2, j3, j4⟩ := Tile.at h3 (by omega) k2
      exact ⟨c, m, j1, j2, j3, List.mem_cons_of_mem _ j4⟩
theorem seg_inj {p : Ip} {c n c' n' : Nat} (h1 : c + n ≤ p.b.length) (h2 : c' + n' ≤ p.b.length) (h : seg p c n = seg p c' n') : c = c' ∧ n = n' := by
  have e1 : (seg p c n).off = (seg p c' n').off := by rw [h]
  have e2 : (seg p c n).b.length = (seg p c' n').b.length := by rw [h]
  rw [seg_len_in h1, seg_len_in h2] at e2
  have e3 : p.off + (c : Int) = p.off + (c' : Int) := e1
  exact ⟨by omega, e2⟩
theorem Tile.apart {p : Ip} : ∀ {l : List Ip} {a c n c' n' : Nat}, Tile p a l → seg p c n ∈ l → seg p c' n' ∈ l → 0 < n → 0 < n' → c + n ≤ p.b.length → c' + n' ≤ p.b.length → c = c' ∧ n = n' ∨ c + n ≤ c' ∨ c' + n' ≤ c
  | [], _, _, _, _, _, _, h, _, _, _, _, _ => by cases h
  | x :: l, a, c, n, c', n', ⟨m, h1, h2, hxe, h3⟩, hx, hy, k1, k2, k3, k4 => by
    subst hxe
    rcases List.mem_cons.1 hx with e | hx' <;> rcases List.mem_cons.1 hy with e' | hy'
    · obtain ⟨rfl, rfl⟩ := seg_inj k3 h2 e
      obtain ⟨rfl, rfl⟩ := seg_inj k4 h2 e'
      exact .inl ⟨rfl, rfl⟩
    · obtain ⟨rfl, rfl⟩ := seg_inj k3 h2 e
      obtain ⟨d, j, j1, j2, j3, j4⟩ := Tile.mem h3 hy'
      obtain ⟨rfl, rfl⟩ := seg_inj k4 j3 j4
      exact .inr (.inl j1)
    · obtain ⟨rfl, rfl⟩ := seg_inj k4 h2 e'
      obtain ⟨d, j, j1, j2, j3, j4⟩ := Tile.mem h3 hx'
      obtain ⟨rfl, rfl⟩ := seg_inj k3 j3 j4
      exact .inr (.inr j1)
    · exact Tile.apart h3 hx' hy' k1 k2 k3 k4
theorem Tile.nodup {p : Ip} : ∀ {l : List Ip} {a : Nat}, Tile p a l → l.Nodup
  | [], _, _ => List.nodup_nil
  | x :: l, a, ⟨n, h1, h2, hxe, h3⟩ => by
    subst hxe
    refine List.nodup_cons.2 ⟨fun h => ?_, Tile.nodup h3⟩
    obtain ⟨c, m, k1, k2, k3, k4⟩ := Tile.mem h3 h
    obtain ⟨rfl, _⟩ := seg_inj h2 k3 k4
    omega

/-! ### Parts put together -/
def covers (x : Ip) (k : Int) : Prop := x.off ≤ k ∧ k < x.off + x.b.length
def goesT (x y : Ip) : Prop := (∀ k, covers x k → covers y k → x.b[(k - x.off).toNat]? = y.b[(k - y.off).toNat]?) ∧ (x.mf = false → y.off + y.b.length ≤ x.off + x.b.length) ∧ (y.mf = false → x.off + x.b.length ≤ y.off + y.b.length)
def ended (l : List Ip) (E : Int) : Prop := ∃ z ∈ l, z.mf = false ∧ z.off + z.b.length = E
def filled (l : List Ip) (E : Int) : Prop := ∀ k : Int, 0 ≤ k → k < E → ∃ y ∈ l, covers y k
/-- All are there. -/
def Full (l : List Ip) : Prop := ∃ E, ended l E ∧ filled l E
/-- What is whole. -/
structure IsWhole (l : List Ip) (q : Ip) : Prop where
  full : ended l q.b.length ∧ filled l q.b.length
  head : ∃ f, l.find? (fun x => decide (x.off = 0)) = some f ∧ q = { f with off := 0, mf := false, b := q.b }
  bytes : ∀ y ∈ l, ∀ k : Int, covers y k → k < q.b.length → q.b[k.toNat]? = y.b[(k - y.off).toNat]?
section
variable {p q : Ip} {l all : List Ip} {c n : Nat}
theorem seg_covers (h0 : p.off = 0) (h : c + n ≤ p.b.length) (k : Int) : covers (seg p c n) k ↔ (c : Int) ≤ k ∧ k < c + n := by
  have hl := seg_len_in h
  unfold covers
  rw [hl]
  show p.off + (c : Int) ≤ k ∧ k < p.off + (c : Int) + n ↔ _
  rw [h0]
  omega
theorem seg_byte (h0 : p.off = 0) (h : c + n ≤ p.b.length) {k : Int} (hk : covers (seg p c n) k) : (seg p c n).b[(k - (seg p c n).off).toNat]? = p.b[k.toNat]? := by
  obtain ⟨k1, k2⟩ := (seg_covers h0 h k).1 hk
  have e : (k - (seg p c n).off).toNat = k.toNat - c := by
    show (k - (p.off + (c : Int))).toNat = _
    omega
  rw [e]
  show ((p.b.drop c).take n)[k.toNat - c]? = _
  rw [List.getElem?_take_of_lt (by omega), List.getElem?_drop]
  congr 1
  omega
theorem seg_mf (hm : p.mf = false) (h : c + n ≤ p.b.length) : (seg p c n).mf = false ↔ c + n = p.b.length := by
  show (p.mf || decide (c + n < p.b.length)) = false ↔ _
  rw [hm, Bool.false_or, decide_eq_false_iff_not]
  omega
theorem seg_end (h0 : p.off = 0) (h : c + n ≤ p.b.length) : (seg p c n).off + (seg p c n).b.length = (c + n : Nat) := by
  rw [seg_len_in h]
  show p.off + (c : Int) + n = _
  rw [h0]
  omega
theorem tile_goes (h0 : p.off = 0) (hm : p.mf = false) (hT : Tile p 0 all) {x y : Ip} (hx : x ∈ all) (hy : y ∈ all) : goesT x y := by
  obtain ⟨c, n, _, h1, h2, rfl⟩ := hT.mem hx
  obtain ⟨d, m, _, k1, k2, rfl⟩ := hT.mem hy
  refine ⟨fun k a b => by rw [seg_byte h0 h2 a, seg_byte h0 k2 b], fun a => ?_, fun a => ?_⟩
  · rw [seg_end h0 h2, seg_end h0 k2]
    have := (seg_mf hm h2).1 a
    omega
  · rw [seg_end h0 h2, seg_end h0 k2]
    have := (seg_mf hm k2).1 a
    omega
/-- As long as one is not there nothing is whole. -/
theorem tile_gap (h0 : p.off = 0) (hm : p.mf = false) (hT : Tile p 0 all) (hl : ∀ x ∈ l, x ∈ all) {t : Ip} (ht : t ∈ all) (hn : t ∉ l) : ¬ Full l := by
  rintro ⟨E, ⟨z, hz, hzm, hze⟩, hf⟩
  obtain ⟨c, n, _, h1, h2, rfl⟩ := hT.mem ht
  obtain ⟨d, m, _, k1, k2, rfl⟩ := hT.mem (hl z hz)
  rw [seg_end h0 k2] at hze
  have hd := (seg_mf hm k2).1 hzm
  obtain ⟨y, hy, hyc⟩ := hf c (by omega) (by omega)
  obtain ⟨e, j, _, j1, j2, rfl⟩ := hT.mem (hl y hy)
  have hc := (seg_covers h0 j2 _).1 hyc
  rcases hT.apart ht (hl _ hy) h1 j1 h2 j2 with ⟨rfl, rfl⟩ | h | h
  · exact hn hy
  · omega
  · omega
theorem tile_full (h0 : p.off = 0) (hm : p.mf = false) (hT : Tile p 0 all) (hb : p.b ≠ []) (ha : ∀ x ∈ all, x ∈ l) : ended l p.b.length ∧ filled l p.b.length := by
  have hl : 0 < p.b.length := List.length_pos_iff.2 hb
  refine ⟨?_, fun k k0 k1 => ?_⟩
  · obtain ⟨c, n, h1, h2, h3, h4⟩ := hT.at (k := p.b.length - 1) (Nat.zero_le _) (by omega)
    exact ⟨_, ha _ h4, (seg_mf hm h3).2 (by omega), by rw [seg_end h0 h3]; omega⟩
  · obtain ⟨c, n, h1, h2, h3, h4⟩ := hT.at (k := k.toNat) (Nat.zero_le _) (by omega)
    exact ⟨_, ha _ h4, (seg_covers h0 h3 k).2 (by omega)⟩
theorem tile_whole (h0 : p.off = 0) (hm : p.mf = false) (hT : Tile p 0 all) (hl : ∀ x ∈ l, x ∈ all) (hq : IsWhole l q) : q = p := by
  obtain ⟨⟨z, hz, hzm, hze⟩, hf⟩ := hq.full
  obtain ⟨d, m, _, k1, k2, rfl⟩ := hT.mem (hl z hz)
  rw [seg_end h0 k2] at hze
  have hd := (seg_mf hm k2).1 hzm
  have hL : q.b.length = p.b.length := by omega
  have hb : q.b = p.b := by
    refine List.ext_getElem? fun i => ?_
    by_cases hi : i < q.b.length
    · obtain ⟨y, hy, hyc⟩ := hf i (by omega) (by omega)
      obtain ⟨e, j, _, j1, j2, rfl⟩ := hT.mem (hl y hy)
      have h1 := hq.bytes _ hy i hyc (by omega)
      rw [seg_byte h0 j2 hyc] at h1
      simpa using h1
    · rw [List.getElem?_eq_none (by omega), List.getElem?_eq_none (by omega)]
  obtain ⟨f, hfi, hqf⟩ := hq.head
  obtain ⟨e, j, _, j1, j2, hfe⟩ := hT.mem (hl f (List.mem_of_find?_eq_some hfi))
  rw [hqf, hb, hfe]
  obtain ⟨_, _, _, mf, off, _, _, _, _, _⟩ := p
  simp only at h0 hm
  subst h0 hm
  rfl
end
end Go.Proofs.YtdmogppkambgaaaDoor
namespace Go.Proofs.YtdmogppkambgaaaDoor

/-- What Split answers by number: 0, or the error's; whether it is of layer 5. -/
def splitC (p : Ip) (mtu : Int) : Nat := if mtu < 68 then 1 else if p.bad ≠ 0 then p.bad else if 20 + (p.b.length : Int) ≤ mtu then 0 else if p.df then 7 else 0
def splitIn (p : Ip) (mtu : Int) : Bool := decide (68 ≤ mtu) && decide (p.bad ≠ 0)
theorem splitC_ok {p : Ip} {mtu : Int} (h : splitC p mtu = 0) : 68 ≤ mtu ∧ p.bad = 0 := by
  unfold splitC at h
  split at h
  · cases h
  · split at h
    · rename_i h2
      exact absurd h h2
    · rename_i h1 h2
      exact ⟨by omega, by simpa using h2⟩
structure Ip.Right (p : Ip) : Prop where
  off0 : 0 ≤ p.off
  off8 : p.off % 8 = 0
  mf : p.mf = true → 0 < p.b.length ∧ p.b.length % 8 = 0
  far : p.off + p.b.length ≤ 65515
theorem Ip.right_iff (p : Ip) : p.bad = 0 ↔ p.Right := by
  unfold Ip.bad Ip.arg
  constructor
  · intro h
    split at h
    · cases h
    · split at h
      · cases h
      · rename_i h1 h2
        simp only [Bool.or_eq_true, decide_eq_true_eq, Bool.and_eq_true, Bool.not_eq_true', Bool.and_eq_false_iff, decide_eq_false_iff_not, not_or, not_and] at h1
        refine ⟨by omega, by omega, fun hm => ?_, by omega⟩
        have := h1.2 hm
        omega
  · rintro ⟨h1, h2, h3, h4⟩
    have hA : (decide (p.off < 0) || decide (p.off % 8 ≠ 0) || (p.mf && !(decide (0 < p.b.length) && decide (p.b.length % 8 = 0)))) = false := by
      have e1 : decide (p.off < 0) = false := decide_eq_false (by omega)
      have e2 : decide (p.off % 8 ≠ 0) = false := decide_eq_false (by omega)
      rw [e1, e2]
      cases hm : p.mf with
      | false => rfl
      | true =>
        obtain ⟨a, b⟩ := h3 hm
        simp [a, b]
    rw [hA]
    simp only [Bool.false_eq_true, if_false]
    rw [if_neg (by omega)]
/-- Parts that are right, fit, and lie one behind the other. -/
structure FitRow (p : Ip) (mtu : Int) (l : List Ip) (pos : Nat → Nat) : Prop where
  start : pos 0 = 0
  stop : pos l.length = p.b.length
  ne : 0 < l.length
  at_ : ∀ i x, l[i]? = some x → x.bad = 0 ∧ 20 + (x.b.length : Int) ≤ mtu ∧ pos (i + 1) = pos i + x.b.length ∧ pos i + x.b.length ≤ p.b.length ∧
    x = { p with off := p.off + pos i, mf := p.mf || decide (i + 1 < l.length), b := (p.b.drop (pos i)).take x.b.length }
theorem seg_right {p : Ip} (h : p.Right) {a s : Nat} (ha : a < p.b.length) (h8 : a % 8 = 0) (hs : 0 < s) (hs8 : s % 8 = 0) : (seg p a s).Right := by
  have hl := seg_len (p := p) (a := a) (n := s)
  have h1 := h.off0
  have h2 := h.off8
  have h4 := h.far
  refine ⟨?_, ?_, fun hm => ?_, ?_⟩
  · show 0 ≤ p.off + (a : Int)
    omega
  · show (p.off + (a : Int)) % 8 = 0
    omega
  · have hm' : (p.mf || decide (a + s < p.b.length)) = true := hm
    rw [hl]
    rcases Bool.or_eq_true _ _ ▸ hm' with e | e
    · have := h.mf e
      omega
    · have := of_decide_eq_true e
      omega
  · rw [hl]
    show p.off + (a : Int) + _ ≤ 65515
    omega
theorem fit_row {p : Ip} {mtu : Int} (hm : 68 ≤ mtu) (hb : p.bad = 0) : ∃ pos, FitRow p mtu (splitL p mtu) pos := by
  have hR := p.right_iff.1 hb
  unfold splitL
  by_cases hf : 20 + (p.b.length : Int) ≤ mtu
  · rw [if_pos hf]
    refine ⟨fun i => if i = 0 then 0 else p.b.length, rfl, rfl, by simp, fun i x hx => ?_⟩
    cases i with
    | zero =>
      obtain rfl : p = x := by simpa using hx
      refine ⟨hb, hf, by simp, by simp, ?_⟩
      simp
    | succ i => simp at hx
  · rw [if_neg hf]
    obtain ⟨s1, s2, s3⟩ := szOf_facts hm
    generalize szOf mtu = s at s1 s2 s3
    have hs : 0 < s := by omega
    have hlen : (cuts p s).length = cntOf p.b.length s := by simp [cuts]
    refine ⟨fun i => min (i * s) p.b.length, by simp, ?_, ?_, fun i x hx => ?_⟩
    · have h1 : ¬ cntOf p.b.length s * s < p.b.length := fun h => by
        have := (cntOf_iff (L := p.b.length) hs).2 h
        omega
      show min ((cuts p s).length * s) p.b.length = p.b.length
      rw [hlen]
      omega
    · rw [hlen]
      exact (cntOf_iff hs).2 (by omega)
    · have hi : i < cntOf p.b.length s := by
        have := (List.getElem?_eq_some_iff.1 hx).1
        rwa [hlen] at this
      have hil := (cntOf_iff hs).1 hi
      have hxe : x = seg p (i * s) s := by
        unfold cuts at hx
        rw [List.getElem?_map, List.getElem?_range hi] at hx
        exact (Option.some.inj hx).symm
      have h8 : i * s % 8 = 0 := by
        rw [Nat.mul_mod, s2]
        simp
      have hl := seg_len (p := p) (a := i * s) (n := s)
      have hn : (i + 1 < (cuts p s).length) ↔ i * s + s < p.b.length := by
        rw [hlen, cntOf_iff hs, Nat.succ_mul]
      subst hxe
      refine ⟨(Ip.right_iff _).2 (seg_right hR hil h8 hs s2), by rw [hl]; omega, ?_, ?_, ?_⟩
      · show min ((i + 1) * s) p.b.length = min (i * s) p.b.length + _
        rw [hl, Nat.succ_mul]
        omega
      · show min (i * s) p.b.length + _ ≤ _
        rw [hl]
        omega
      · have e0 : min (i * s) p.b.length = i * s := by omega
        have e1 : (p.b.drop (i * s)).take s = (p.b.drop (i * s)).take (min s (p.b.length - i * s)) := by
          by_cases h : s ≤ p.b.length - i * s
          · rw [Nat.min_eq_left h]
          · rw [Nat.min_eq_right (by omega), List.take_of_length_le (by rw [List.length_drop]; omega), List.take_of_length_le (by rw [List.length_drop]; omega)]
        rw [hl]
        show seg p (i * s) s = { p with off := p.off + ((min (i * s) p.b.length : Nat) : Int), mf := p.mf || decide (i + 1 < (cuts p s).length), b := (p.b.drop (min (i * s) p.b.length)).take (min s (p.b.length - i * s)) }
        rw [e0, ← e1, decide_eq_decide.2 hn]
        rfl
theorem FitRow.mem {p : Ip} {mtu : Int} {l : List Ip} {pos : Nat → Nat} (h : FitRow p mtu l pos) {x : Ip} (hx : x ∈ l) : x.bad = 0 ∧ 20 + (x.b.length : Int) ≤ mtu ∧ x.df = p.df ∧ x.key4 = p.key4 := by
  obtain ⟨i, hi⟩ := List.getElem?_of_mem hx
  obtain ⟨h1, h2, _, _, h5⟩ := h.at_ i x hi
  refine ⟨h1, h2, ?_, ?_⟩ <;> rw [h5] <;> rfl
/-- Parted again for the same mtu. -/
theorem split_again {p : Ip} {mtu : Int} (hm : 68 ≤ mtu) (hb : p.bad = 0) {x : Ip} (hx : x ∈ splitL p mtu) : splitC x mtu = 0 ∧ splitL x mtu = [x] := by
  obtain ⟨pos, h⟩ := fit_row hm hb
  obtain ⟨h1, h2, _⟩ := h.mem hx
  unfold splitC splitL
  rw [if_neg (by omega), if_neg (by simp [h1]), if_pos h2, if_pos h2]
  exact ⟨rfl, rfl⟩
theorem split_more {p : Ip} {mtu m2 : Int} (hm : 68 ≤ mtu) (h : mtu ≤ m2) : (splitL p m2).length ≤ (splitL p mtu).length ∧ 0 < (splitL p m2).length := by
  have s1 := szOf_facts hm
  have s2 := szOf_facts (show 68 ≤ m2 by omega)
  have s3 : szOf mtu ≤ szOf m2 := by unfold szOf; omega
  unfold splitL
  by_cases h2 : 20 + (p.b.length : Int) ≤ m2
  · rw [if_pos h2]
    by_cases h1 : 20 + (p.b.length : Int) ≤ mtu
    · rw [if_pos h1]; simp
    · rw [if_neg h1]
      have hc : 0 < cntOf p.b.length (szOf mtu) := (cntOf_iff (by omega)).2 (by omega)
      simp [cuts]
      omega
  · rw [if_neg h2, if_neg (by omega)]
    have hc : 0 < cntOf p.b.length (szOf m2) := (cntOf_iff (by omega)).2 (by omega)
    have hle : cntOf p.b.length (szOf m2) ≤ cntOf p.b.length (szOf mtu) := by
      rcases Nat.lt_or_ge (cntOf p.b.length (szOf mtu)) (cntOf p.b.length (szOf m2)) with hlt | hge
      · have a := (cntOf_iff (L := p.b.length) (s := szOf m2) (by omega)).1 hlt
        have b : cntOf p.b.length (szOf mtu) * szOf mtu ≤ cntOf p.b.length (szOf mtu) * szOf m2 := Nat.mul_le_mul_left _ s3
        have c := (cntOf_iff (L := p.b.length) (s := szOf mtu) (k := cntOf p.b.length (szOf mtu)) (by omega)).2 (by omega)
        omega
      · exact hge
    simp [cuts]
    omega
/-- A byte turned does not go with what it was. -/
theorem turn_goes {x : Ip} {i : Nat} {u : UInt8} (hi : i < x.b.length) (hu : x.b[i]? ≠ some u) : ¬ goesT x { x with b := x.b.set i u } := by
  rintro ⟨h, _⟩
  have hk : covers x (x.off + i) := ⟨by omega, by omega⟩
  have hk2 : covers { x with b := x.b.set i u } (x.off + i) := ⟨by show x.off ≤ _; omega, by show _ < x.off + ((x.b.set i u).length : Int); rw [List.length_set]; omega⟩
  have := h _ hk hk2
  have e : (x.off + (i : Int) - x.off).toNat = i := by omega
  simp only [e] at this
  rw [List.getElem?_set_self hi] at this
  exact hu this
theorem goes_self (x : Ip) : goesT x x := ⟨fun _ _ _ => rfl, fun _ => Int.le_refl _, fun _ => Int.le_refl _⟩
end Go.Proofs.YtdmogppkambgaaaDoor
namespace Go.Proofs.YtdmogppkambgaaaDoor

abbrev Ky := Nat × Nat × Nat × Nat
/-- Parts that belong together, as they came. -/
structure Hp where
  k : Ky
  t : Int
  l : List Ip
def Un (S : List Hp) : Prop := S.Pairwise fun a b => a.k ≠ b.k
def hget (S : List Hp) (k : Ky) : Option Hp := S.find? fun h => decide (h.k = k)
def hdel (S : List Hp) (k : Ky) : List Hp := S.filter fun h => !decide (h.k = k)
def held (S : List Hp) (k : Ky) : List Ip := match hget S k with | some h => h.l | none => []
def since (S : List Hp) (k : Ky) (now : Int) : Int := match hget S k with | some h => h.t | none => now
theorem hget_some {S : List Hp} {k : Ky} {h : Hp} (e : hget S k = some h) : h ∈ S ∧ h.k = k := ⟨List.mem_of_find?_eq_some e, by simpa using List.find?_some e⟩
theorem hget_none {S : List Hp} {k : Ky} : hget S k = none ↔ ∀ h ∈ S, h.k ≠ k := by simp [hget]
theorem un_one {S : List Hp} (hU : Un S) {a b : Hp} (ha : a ∈ S) (hb : b ∈ S) (h : a.k = b.k) : a = b := by
  induction S with
  | nil => cases ha
  | cons x l ih =>
    obtain ⟨h1, h2⟩ := List.pairwise_cons.1 hU
    rcases List.mem_cons.1 ha with rfl | ha' <;> rcases List.mem_cons.1 hb with rfl | hb'
    · rfl
    · exact absurd h (h1 b hb')
    · exact absurd h.symm (h1 a ha')
    · exact ih h2 ha' hb'
theorem hget_mem {S : List Hp} (hU : Un S) {h : Hp} (hm : h ∈ S) : hget S h.k = some h := by
  cases e : hget S h.k with
  | none => exact absurd rfl (hget_none.1 e h hm)
  | some b =>
    obtain ⟨h1, h2⟩ := hget_some e
    rw [un_one hU h1 hm h2]
theorem un_perm {S S' : List Hp} (hU : Un S) (hp : S'.Perm S) : Un S' := (hp.pairwise_iff (fun h e => h e.symm)).2 hU
theorem hget_perm {S S' : List Hp} (hU : Un S) (hp : S'.Perm S) (k : Ky) : hget S' k = hget S k := by
  cases e : hget S k with
  | none => exact hget_none.2 fun h hm => hget_none.1 e h (hp.mem_iff.1 hm)
  | some b =>
    obtain ⟨h1, h2⟩ := hget_some e
    rw [← h2]
    exact hget_mem (un_perm hU hp) (hp.mem_iff.2 h1)
theorem mem_hdel {S : List Hp} {k : Ky} {h : Hp} : h ∈ hdel S k ↔ h ∈ S ∧ h.k ≠ k := by simp [hdel]
theorem un_hdel {S : List Hp} (hU : Un S) (k : Ky) : Un (hdel S k) := List.Pairwise.filter _ hU
theorem hget_hdel_same (S : List Hp) (k : Ky) : hget (hdel S k) k = none := hget_none.2 fun _ hm => (mem_hdel.1 hm).2
theorem hget_hdel_other {S : List Hp} (hU : Un S) {k k' : Ky} (hk : k' ≠ k) : hget (hdel S k) k' = hget S k' := by
  cases e : hget S k' with
  | none => exact hget_none.2 fun h hm => hget_none.1 e h (mem_hdel.1 hm).1
  | some b =>
    obtain ⟨h1, h2⟩ := hget_some e
    rw [← h2]
    exact hget_mem (un_hdel hU k) (mem_hdel.2 ⟨h1, by rw [h2]; exact hk⟩)
theorem hdel_none {S : List Hp} {k : Ky} (h : hget S k = none) : hdel S k = S := List.filter_eq_self.2 fun z hz => by simpa using hget_none.1 h z hz
theorem len_hdel {S : List Hp} (hU : Un S) (k : Ky) : (hdel S k).length + (if (hget S k).isSome then 1 else 0) = S.length := by
  induction S with
  | nil => rfl
  | cons x l ih =>
    obtain ⟨h1, h2⟩ := List.pairwise_cons.1 hU
    have i := ih h2
    by_cases hx : x.k = k
    · have e : hget (x :: l) k = some x := by simp [hget, hx]
      have e2 : hdel (x :: l) k = hdel l k := by simp [hdel, hx]
      have e3 : hget l k = none := hget_none.2 fun z hz e4 => h1 z hz (hx.trans e4.symm)
      rw [e, e2, hdel_none e3]
      rfl
    · have e : hget (x :: l) k = hget l k := by simp [hget, hx]
      have e2 : hdel (x :: l) k = x :: hdel l k := by simp [hdel, hx]
      rw [e, e2, List.length_cons, List.length_cons]
      omega
theorem un_cons {S : List Hp} (hU : Un S) (h : Hp) : Un (h :: hdel S h.k) := List.pairwise_cons.2 ⟨fun _ hz e => (mem_hdel.1 hz).2 e.symm, un_hdel hU _⟩
theorem hget_cons_same (S : List Hp) (h : Hp) : hget (h :: S) h.k = some h := by simp [hget]
theorem hget_cons_other {S : List Hp} {h : Hp} {k : Ky} (hk : k ≠ h.k) : hget (h :: S) k = hget S k := by
  have : h.k ≠ k := fun e => hk e.symm
  simp [hget, this]

/-! ### Take, Tick -/
def Alone (p : Ip) : Prop := p.off = 0 ∧ p.mf = false
/-- What Take does: the heaps behind it, what is whole, the error's number, and whether it is of layer 5. -/
inductive TakeR (S : List Hp) (p : Ip) (now : Int) : List Hp → Option Ip → Nat → Bool → Prop
  | wrong (h : p.bad ≠ 0) : TakeR S p now S none p.bad true
  | alone (h : p.bad = 0) (ha : Alone p) : TakeR S p now S (some p) 0 false
  | full (h : p.bad = 0) (ha : ¬ Alone p) (hn : hget S p.key4 = none) (h8 : 8 ≤ S.length) : TakeR S p now S none 5 false
  | spoilt (S' : List Hp) (h : p.bad = 0) (ha : ¬ Alone p) (hr : hget S p.key4 = none → S.length < 8) (hg : ∃ y ∈ held S p.key4, ¬ goesT y p) (hS : S'.Perm (hdel S p.key4)) : TakeR S p now S' none 3 false
  | waits (S' : List Hp) (h : p.bad = 0) (ha : ¬ Alone p) (hr : hget S p.key4 = none → S.length < 8) (hg : ∀ y ∈ held S p.key4, goesT y p) (hf : ¬ Full (held S p.key4 ++ [p]))
      (hS : S'.Perm (⟨p.key4, since S p.key4 now, held S p.key4 ++ [p]⟩ :: hdel S p.key4)) : TakeR S p now S' none 0 false
  | whole (S' : List Hp) (q : Ip) (h : p.bad = 0) (ha : ¬ Alone p) (hr : hget S p.key4 = none → S.length < 8) (hg : ∀ y ∈ held S p.key4, goesT y p) (hq : IsWhole (held S p.key4 ++ [p]) q) (hS : S'.Perm (hdel S p.key4)) : TakeR S p now S' (some q) 0 false
def late (tm now : Int) (h : Hp) : Bool := decide (tm ≤ if now < h.t then 0 else now - h.t)
/-- What Tick does. -/
def TickR (S : List Hp) (tm now : Int) (S' : List Hp) (n : Nat) : Prop := S'.Perm (S.filter fun h => !late tm now h) ∧ n = (S.filter fun h => late tm now h).length
section
variable {S S' : List Hp} {p : Ip} {now : Int} {o : Option Ip} {c : Nat} {b : Bool}
theorem TakeR.un (hU : Un S) (h : TakeR S p now S' o c b) : Un S' := by
  cases h with
  | wrong => exact hU
  | alone => exact hU
  | full => exact hU
  | spoilt _ _ _ _ hg hS => exact un_perm (un_hdel hU _) hS
  | waits _ _ _ _ hg hf hS => exact un_perm (un_cons hU _) hS
  | whole _ _ _ _ _ hg hq hS => exact un_perm (un_hdel hU _) hS
theorem TakeR.other (hU : Un S) (h : TakeR S p now S' o c b) {k : Ky} (hk : k ≠ p.key4) : hget S' k = hget S k := by
  cases h with
  | wrong => rfl
  | alone => rfl
  | full => rfl
  | spoilt _ _ _ _ hg hS => rw [hget_perm (un_hdel hU _) hS, hget_hdel_other hU hk]
  | waits _ _ _ _ hg hf hS => rw [hget_perm (un_cons hU _) hS, hget_cons_other hk, hget_hdel_other hU hk]
  | whole _ _ _ _ _ hg hq hS => rw [hget_perm (un_hdel hU _) hS, hget_hdel_other hU hk]
/-- How many heaps there are behind it. -/
theorem TakeR.len (hU : Un S) (h8 : S.length ≤ 8) (h : TakeR S p now S' o c b) :
    S'.length ≤ 8 ∧ S'.length ≤ S.length + 1 ∧ S.length ≤ S'.length + 1 ∧ (o.isSome = true → c = 0) ∧ (S'.length = S.length + 1 → o = none ∧ c = 0) ∧ (S.length = S'.length + 1 → o = none → c = 3 ∧ b = false) := by
  have hl := len_hdel hU p.key4
  cases h with
  | wrong => exact ⟨h8, by omega, by omega, (fun h => by cases h), (fun h => by omega), fun h => by omega⟩
  | alone => exact ⟨h8, by omega, by omega, fun _ => rfl, (fun h => by omega), fun h => by omega⟩
  | full => exact ⟨h8, by omega, by omega, (fun h => by cases h), (fun h => by omega), fun h => by omega⟩
  | spoilt _ _ _ hr hg hS =>
    have := hS.length_eq
    split at hl
    · exact ⟨by omega, by omega, by omega, (fun h => by cases h), (fun h => by omega), fun _ _ => ⟨rfl, rfl⟩⟩
    · exact ⟨by omega, by omega, by omega, (fun h => by cases h), (fun h => by omega), fun _ _ => ⟨rfl, rfl⟩⟩
  | waits _ _ _ hr hg hf hS =>
    have := hS.length_eq
    rw [List.length_cons] at this
    split at hl
    · exact ⟨by omega, by omega, by omega, (fun h => by cases h), fun _ => ⟨rfl, rfl⟩, fun h => by omega⟩
    · rename_i hn
      have := hr (by simpa using hn)
      exact ⟨by omega, by omega, by omega, (fun h => by cases h), fun _ => ⟨rfl, rfl⟩, fun h => by omega⟩
  | whole _ _ _ _ hr hg hq hS =>
    have := hS.length_eq
    split at hl
    · exact ⟨by omega, by omega, by omega, fun _ => rfl, (fun h => by omega), fun _ h => by cases h⟩
    · exact ⟨by omega, by omega, by omega, fun _ => rfl, (fun h => by omega), fun _ h => by cases h⟩
/-- When the heaps began. -/
theorem TakeR.began (h : TakeR S p now S' o c b) {N : Int} (hN : now ≤ N) (hS : ∀ x ∈ S, x.t ≤ N) : ∀ x ∈ S', x.t ≤ N := by
  cases h with
  | wrong => exact hS
  | alone => exact hS
  | full => exact hS
  | spoilt _ _ _ _ hg hP => exact fun x hx => hS x (mem_hdel.1 (hP.mem_iff.1 hx)).1
  | waits _ _ _ _ hg hf hP =>
    intro x hx
    rcases List.mem_cons.1 (hP.mem_iff.1 hx) with rfl | hx
    · show since S p.key4 now ≤ N
      unfold since
      cases e : hget S p.key4 with
      | none => exact hN
      | some b => exact hS b (hget_some e).1
    · exact hS x (mem_hdel.1 hx).1
  | whole _ _ _ _ _ hg hq hP => exact fun x hx => hS x (mem_hdel.1 (hP.mem_iff.1 hx)).1
end
theorem TickR.un {S S' : List Hp} {tm now : Int} {n : Nat} (hU : Un S) (h : TickR S tm now S' n) : Un S' := un_perm (List.Pairwise.filter _ hU) h.1
theorem filter_two {α : Type} (f : α → Bool) : ∀ l : List α, (l.filter fun x => !f x).length + (l.filter fun x => f x).length = l.length
  | [] => rfl
  | x :: l => by
    have ih := filter_two f l
    cases h : f x <;> simp [h] <;> omega
theorem TickR.len {S S' : List Hp} {tm now : Int} {n : Nat} (h : TickR S tm now S' n) : S'.length + n = S.length := by
  rw [h.1.length_eq, h.2]
  exact filter_two (fun h => late tm now h) S
theorem TickR.mem {S S' : List Hp} {tm now : Int} {n : Nat} (h : TickR S tm now S' n) {x : Hp} (hx : x ∈ S') : x ∈ S ∧ late tm now x = false := by
  have := h.1.mem_iff.1 hx
  simpa using this
/-- Behind a late enough one nothing waits. -/
theorem TickR.gone {S S' : List Hp} {tm now N : Int} {n : Nat} (h : TickR S tm now S' n) (hS : ∀ x ∈ S, x.t ≤ N) (h0 : 0 ≤ tm) (hN : N + tm ≤ now) : S' = [] := by
  cases S' with
  | nil => rfl
  | cons x l =>
    obtain ⟨h1, h2⟩ := h.mem (List.mem_cons_self ..)
    have := hS x h1
    unfold late at h2
    rw [if_neg (by omega), decide_eq_true (by omega)] at h2
    cases h2

/-! ### The parts of one packet -/
/-- The heap of a key has these, and no others. -/
def HeapIs (S : List Hp) (k : Ky) (t : Int) (seen : List Ip) : Prop := (seen = [] ∧ hget S k = none) ∨ ∃ h, hget S k = some h ∧ h.t = t ∧ (∀ x, x ∈ h.l ↔ x ∈ seen) ∧ seen ≠ []
theorem HeapIs.held {S : List Hp} {k : Ky} {t : Int} {seen : List Ip} (h : HeapIs S k t seen) : ∀ x, x ∈ held S k ↔ x ∈ seen := by
  unfold Go.Proofs.YtdmogppkambgaaaDoor.held
  rcases h with ⟨rfl, e⟩ | ⟨b, e, _, h1, _⟩
  · rw [e]; simp
  · rw [e]; exact h1
section
variable {S S' : List Hp} {p t : Ip} {now t0 : Int} {o : Option Ip} {c : Nat} {b : Bool} {all seen : List Ip}
theorem tile_part (h0 : p.off = 0) (hm : p.mf = false) (hT : Tile p 0 all) (h2 : 2 ≤ all.length) {x : Ip} (hx : x ∈ all) : ¬ Alone x ∧ x.key4 = p.key4 := by
  obtain ⟨c, n, _, h1, h3, rfl⟩ := hT.mem hx
  refine ⟨?_, rfl⟩
  rintro ⟨a1, a2⟩
  have e1 : p.off + (c : Int) = 0 := a1
  have e2 := (seg_mf hm h3).1 a2
  have hc : c = 0 := by omega
  subst hc
  have hnd := hT.nodup
  match all, h2, hT, hx, hnd with
  | y :: z :: r, _, hT, hx, hnd =>
    obtain ⟨d1, m1, _, k1, k2, hy⟩ := hT.mem (x := y) (by simp)
    obtain ⟨d2, m2, _, j1, j2, hz⟩ := hT.mem (x := z) (by simp)
    have hne : y ≠ z := fun e => (List.nodup_cons.1 hnd).1 (by rw [e]; simp)
    have a := hT.apart hx (hy ▸ (by simp : y ∈ y :: z :: r)) h1 k1 h3 k2
    have b := hT.apart hx (hz ▸ (by simp : z ∈ y :: z :: r)) h1 j1 h3 j2
    have e3 : 0 = d1 ∧ n = m1 := by omega
    have e4 : 0 = d2 ∧ n = m2 := by omega
    exact hne (by rw [hy, hz, ← e3.1, ← e3.2, ← e4.1, ← e4.2])
/-- One part more: whole just when it was the last one. -/
theorem take_tile (h0 : p.off = 0) (hm : p.mf = false) (hb : p.b ≠ []) (hT : Tile p 0 all) (h2 : 2 ≤ all.length) (hr : ∀ x ∈ all, x.bad = 0) (hU : Un S) (h8 : S.length < 8) (hH : HeapIs S p.key4 t0 seen) (hs : ∀ x ∈ seen, x ∈ all) (ht : t ∈ all) (hnow : seen = [] → now = t0)
    (h : TakeR S t now S' o c b) :
    ((∀ x ∈ all, x ∈ seen ∨ x = t) → o = some p ∧ c = 0 ∧ b = false ∧ hget S' p.key4 = none ∧ S'.length + (if seen = [] then 0 else 1) = S.length) ∧
    ((∃ x ∈ all, ¬ (x ∈ seen ∨ x = t)) → o = none ∧ c = 0 ∧ b = false ∧ HeapIs S' p.key4 t0 (seen ++ [t]) ∧ S'.length = S.length + (if seen = [] then 1 else 0)) := by
  obtain ⟨hna, hk⟩ := tile_part h0 hm hT h2 ht
  have hheld := hH.held
  have hgo : ∀ y ∈ held S t.key4, goesT y t := fun y hy => by
    rw [hk] at hy
    exact tile_goes h0 hm hT (hs y ((hheld y).1 hy)) ht
  have hall : ∀ x ∈ held S t.key4 ++ [t], x ∈ all := fun x hx => by
    rw [hk] at hx
    rcases List.mem_append.1 hx with hx | hx
    · exact hs x ((hheld x).1 hx)
    · rw [List.mem_singleton.1 hx]; exact ht
  have hl := len_hdel hU p.key4
  have hsome : (if (hget S p.key4).isSome then 1 else 0) = (if seen = [] then 0 else 1) := by
    rcases hH with ⟨e1, e2⟩ | ⟨h, e1, _, _, e3⟩
    · rw [e2, e1]; rfl
    · rw [e1, if_neg e3]; rfl
  rw [hsome] at hl
  have hfull : (∀ x ∈ all, x ∈ seen ∨ x = t) → Full (held S t.key4 ++ [t]) := fun ha => ⟨_, tile_full h0 hm hT hb (fun x hx => by
    rw [hk]
    rcases ha x hx with h | h
    · exact List.mem_append_left _ ((hheld x).2 h)
    · exact List.mem_append_right _ (by rw [h]; simp))⟩
  have hgap : (∃ x ∈ all, ¬ (x ∈ seen ∨ x = t)) → ¬ Full (held S t.key4 ++ [t]) := fun ⟨x, hx, hn⟩ => tile_gap h0 hm hT hall hx (fun hx2 => by
    rw [hk] at hx2
    rcases List.mem_append.1 hx2 with h | h
    · exact hn (.inl ((hheld x).1 h))
    · exact hn (.inr (List.mem_singleton.1 h)))
  cases h with
  | wrong hw => exact absurd (hr t ht) hw
  | alone _ ha => exact absurd ha hna
  | full _ _ _ h9 => omega
  | spoilt _ _ _ _ hg _ =>
    obtain ⟨y, hy, hn⟩ := hg
    exact absurd (hgo y hy) hn
  | waits _ _ _ _ _ hf hS =>
    refine ⟨fun ha => absurd (hfull ha) hf, fun _ => ⟨rfl, rfl, rfl, ?_, ?_⟩⟩
    · have hU2 : Un (⟨t.key4, since S t.key4 now, held S t.key4 ++ [t]⟩ :: hdel S t.key4) := un_cons hU ⟨t.key4, since S t.key4 now, held S t.key4 ++ [t]⟩
      have e := hget_perm hU2 hS p.key4
      have e5 := hget_cons_same (hdel S t.key4) ⟨t.key4, since S t.key4 now, held S t.key4 ++ [t]⟩
      rw [← hk] at e
      rw [e5] at e
      rw [← hk]
      refine .inr ⟨_, e, ?_, fun x => ?_, by simp⟩
      · show since S t.key4 now = t0
        unfold since
        rw [hk]
        rcases hH with ⟨e1, e2⟩ | ⟨h, e1, e2, _, _⟩
        · rw [e2]; exact hnow e1
        · rw [e1]; exact e2
      · show x ∈ held S t.key4 ++ [t] ↔ x ∈ seen ++ [t]
        rw [hk, List.mem_append, List.mem_append, hheld x]
    · have := hS.length_eq
      rw [List.length_cons, hk] at this
      split at hl <;> rename_i hse <;> simp only [hse, if_true, if_false] <;> omega
  | whole _ q _ _ _ _ hq hS =>
    refine ⟨fun _ => ⟨by rw [tile_whole h0 hm hT hall hq], rfl, rfl, ?_, ?_⟩, fun hx => absurd ⟨_, hq.full⟩ (hgap hx)⟩
    · rw [hget_perm (un_hdel hU _) hS, hk, hget_hdel_same]
    · have := hS.length_eq
      rw [hk] at this
      omega
end
end Go.Proofs.YtdmogppkambgaaaDoor
namespace Go.Proofs.YtdmogppkambgaaaDoor
open Go.RowKit

def Ip.few (p : Ip) : Ip := { p with b := p.b.take 2000 }
theorem Ip.few_in {p : Ip} (h : p.Fit) : p.few.In := h.inn _ (by rw [List.length_take]; omega)
/-- What few tells. -/
def FewTold (p : Ip) (w : World) (e : Ending) (w' : World) : Prop :=
  ∃ g c, e = .returned (.agg #[.int .u8 p.tos, .int .u16 p.id, .bool p.df, .bool p.mf, .int .i64 p.off, .int .u8 p.ttl, .int .u8 p.proto, .int .u32 p.src, .int .u32 p.dst, .slice (some ⟨g, 0, none⟩) p.few.b.length c]) ∧ Rd w' (.slice (some ⟨g, 0, none⟩) p.few.b.length c) p.few.b ∧ w.heap.size ≤ g ∧ Below w.heap.size w w' ∧ c ≤ 9223372036854775807
theorem front_any {w : World} {A : Option Addr} {c : Nat} {bs : List UInt8} (h : Rd w (.slice A bs.length c) bs) (k : Nat) : Rd w (.slice A (bs.take k).length c) (bs.take k) := by
  by_cases hk : k ≤ bs.length
  · have e : (bs.take k).length = k := by rw [List.length_take]; omega
    rw [e]
    exact h.front hk
  · rw [List.take_of_length_le (by omega)]
    exact h
theorem rd_row {W : World} {G n c : Nat} {bs : List UInt8} (h : Rd W (.slice (some ⟨G, 0, none⟩) n c) bs) {g : Nat} (hne : G ≠ g) (cs : Array Value) : Rd (W.setRow g cs) (.slice (some ⟨G, 0, none⟩) n c) bs := by
  obtain ⟨A, c', e, hc, hi⟩ := h
  refine ⟨A, c', e, hc, fun h0 => ?_⟩
  obtain ⟨g', o, e1, hi⟩ := hi h0
  refine ⟨g', o, e1, fun j u hu => ?_⟩
  cases e
  cases e1
  rw [World.cell?_of_block (setRow_other W g cs hne)]
  exact hi j u hu
set_option maxRecDepth 100000 in
set_option maxHeartbeats 2000000 in
theorem few2_any (p : Ip) (A : Option Addr) (c : Nat) (w : World) (hr : Rd w (.slice A p.b.length c) p.b) (hcc : c ≤ 9223372036854775807) :
    Calls Tryd.prog 15 #[p.val (.slice A p.b.length c)] w (FewTold p w) := by
  have hx := IpAt.new w p (.slice A p.b.length c)
  have hn : Below (w.alloc (p.obj (.slice A p.b.length c))).heap.size (w.alloc (p.obj (.slice A p.b.length c))) ((w.alloc (p.obj (.slice A p.b.length c))).alloc noIpObj) := below_al (Below.refl _ _) _
  have hw : Below w.heap.size w ((w.alloc (p.obj (.slice A p.b.length c))).alloc noIpObj) := below_al (below_al (Below.refl _ _) _) _
  have hz : ((w.alloc (p.obj (.slice A p.b.length c))).alloc noIpObj).heap[w.heap.size + 1]? = some noIpObj := by
    have := heap_alloc_new (w.alloc (p.obj (.slice A p.b.length c))) noIpObj
    simpa using this
  have hcap := hr.cap_le
  have hx2 := hx.below hn
  have hr2 := (front_any hr 2000).below hw
  have hF : p.few.b = p.b.take 2000 := rfl
  have hmin := fun ats ty W => min_run (P := Tryd.prog) ats ty (p.b.length : Int) 2000 ((p.b.take 2000).length : Nat) (by rw [List.length_take]; omega) W
  have hkl : (p.b.take 2000).length ≤ p.b.length := by rw [List.length_take]; omega
  have hk3 : (p.b.take 2000).length ≤ 2000 := by rw [List.length_take]; omega
  unfold FewTold
  rw [hF]
  clear hF hn hx hr
  generalize hW : (w.alloc (p.obj (.slice A p.b.length c))).alloc noIpObj = W at *
  unfold Ip.obj noIpObj at hW
  obtain ⟨g', c', W1, run1, mine1, hg1, _, _⟩ := (Mine.first (Below.refl W.heap.size W)).append (p.b.take 2000) _ (hr2.below (below_al (Below.refl _ _) _)) (by simp; omega)
  rw [List.nil_append] at run1 mine1
  rw [Ip.val_lit]
  generalize p.b.take 2000 = bs at *
  generalize hL : p.b.length = L at *
  have HB1 := Lib.hid (below_to hw mine1.old hw.size)
  have HX1 := Lib.hid (hx2.below mine1.old)
  have HZ1 := Lib.hid (be_block mine1.old hz)
  have HM := Lib.hid mine1.rd
  have HCc := Lib.hid mine1.cap
  have HN : Hid (w.heap.size + 1 < W.heap.size ∧ W.heap.size ≤ g') := ⟨(Array.getElem?_eq_some_iff.1 hz).1, mine1.new⟩
  obtain ⟨c0, c1, c2, c3, c4, c5, c6, c7, c8, c9⟩ := hx2.cells
  have hk1 : ((bs.length : Nat) : Int) ≤ (L : Int) := by omega
  clear hw mine1 hg1 hr2 hz hx2 hL
  go_enter Tryd.func15, Tryd.ntmps15
  go_upto_region 1 with fail
  (try rw [hW])
  clear hW
  have E1 := Lib.hid run1
  have nA : Below W.heap.size W (W.alloc (.cells #[] 5)) := below_al (Below.refl _ _) _
  have e9 : (W.alloc (.cells #[] 5)).cell? ⟨w.heap.size, 9, none⟩ = some (.slice A L c) := cell_later nA c9
  have d9 := HX1.out.cells.2.2.2.2.2.2.2.2.2
  have f9 := HX1.out.free 9
  clear run1 c0 c1 c2 c3 c4 c5 c6 c7 c8 nA
  go_upto_region 2 with (at_builtin; refine wpList_append_eq rfl (.tmp 3) (.tmp 10) 23 rfl _ _ rfl rfl _ _ E1.out ?_)
  clear c9 e9 d9 f9 E1 hmin
  have HX2 := Lib.hid (set9_10 HX1.out (.slice (some ⟨g', 0, none⟩) bs.length c'))
  have HZ2 : Hid (IpAt _ (w.heap.size + 1) noIp (.slice none 0 0)) := set_block (i := 9) HZ1.out (show w.heap.size + 1 ≠ w.heap.size by omega) (.slice (some ⟨g', 0, none⟩) bs.length c')
  have HM2 := Lib.hid (rd_set HM.out (show g' ≠ w.heap.size by have := HN.out; omega) 9 (.slice (some ⟨g', 0, none⟩) bs.length c'))
  have HB2 := Lib.hid (HB1.out.setCell (p := ⟨w.heap.size, 9, none⟩) (Nat.le_refl _) (.slice (some ⟨g', 0, none⟩) bs.length c'))
  clear HX1 HZ1 HM HB1
  generalize W1.setCell ⟨w.heap.size, 9, none⟩ (.slice (some ⟨g', 0, none⟩) bs.length c') = W2 at *
  obtain ⟨d0, d1, d2, d3, d4, d5, d6, d7, d8, d9⟩ := cells10 HX2.out
  go_wp2_with (refine wpList_store_row rfl 42 (.tmp 2) (.tmp 13) rfl (w.heap.size + 1) (p.row (.slice (some ⟨g', 0, none⟩) bs.length c')) rfl rfl 42 _ HZ2.out ipSize rfl (ipRow_one _ _ _ _) ?_)
  (try simp only [Exit.inBlock, Exit.then])
  refine bodyPost_ret (results_cell_row rfl _ _ (w.heap.size + 1) _ (p.row (.slice (some ⟨g', 0, none⟩) bs.length c')) (0, 0) _ rfl (setRow_heap _ _ _ _ _ _ HZ2.out) Tryd.underlying42 rfl ipSize) rfl ?_
  have n1 := HN.out
  refine ⟨g', c', rfl, rd_row HM2.out (by omega) _, by omega, ((Fr.of_below (p := fun a => a.block = w.heap.size + 1) HB2.out).then (Fr.of_row W2 (w.heap.size + 1) _) (fun x hx _ => hx)).below (Nat.le_refl _) (fun x hx => by omega), by have := HCc.out; unfold maxLen at this; omega⟩
end Go.Proofs.YtdmogppkambgaaaDoor
namespace Go.Proofs.YtdmogppkambgaaaDoor
open Go.RowKit

def UW (x : Int) : Prop := 0 ≤ x ∧ x < 18446744073709551616
def fragWord : ByteArray := ⟨#[102, 114, 97, 103]⟩
/-- What was done: the blocks F alone, and new ones. -/
structure Did (w w' : World) (F F' : Nat → Prop) : Prop where
  os : w'.os = w.os
  tape : w'.tape = w.tape
  output : w'.output = w.output
  size : w.heap.size ≤ w'.heap.size
  block : ∀ k, k < w.heap.size → ¬ F k → w'.heap[k]? = w.heap[k]?
  new : ∀ k, F' k → F k ∨ w.heap.size ≤ k
/-- The error of a number, by who wrapped it. -/
def ErrIs (w : World) (c : Nat) (b : Bool) (ev : Value) : Prop :=
  (c = 0 ∧ ev = .nilIface) ∨ (c ≠ 0 ∧ ∃ x : Nat, ev = .iface 106 (.pointer (some ⟨x, 0, none⟩)) ∧ Chain w c (if b then [fragWord, ipWord] else [fragWord]) ev)
/-- What Take tells. -/
def TakeVal (o : Option Ip) (c : Nat) (b : Bool) (e : Ending) (w' : World) : Prop :=
  ∃ (B : Option Addr) (d : Nat) (ev : Value), e = .returned (.tuple #[.agg #[.int .u8 (o.getD noIp).tos, .int .u16 (o.getD noIp).id, .bool (o.getD noIp).df, .bool (o.getD noIp).mf, .int .i64 (o.getD noIp).off, .int .u8 (o.getD noIp).ttl, .int .u8 (o.getD noIp).proto, .int .u32 (o.getD noIp).src, .int .u32 (o.getD noIp).dst, .slice B (o.getD noIp).b.length d], .bool o.isSome, ev]) ∧
    Rd w' (.slice B (o.getD noIp).b.length d) (o.getD noIp).b ∧ ErrIs w' c b ev
/-- What is told lies in the argument's own block, or in one that was the reassembler's, or is new, and is none of its own behind it. -/
def Apart (e : Ending) (A : Option Addr) (w w' : World) (F F' : Nat → Prop) : Prop :=
  ∀ (row : Array Value) (ok ev : Value) (x : Addr) (n c : Nat), e = .returned (.tuple #[.agg row, ok, ev]) → row[9]? = some (.slice (some x) n c) → (∃ a, A = some a ∧ a.block = x.block) ∨ ((F x.block ∨ w.heap.size ≤ x.block) ∧ x.block < w'.heap.size ∧ ¬ F' x.block)
structure FgOk (R : World → Nat → (Nat → Prop) → Int → List Hp → Prop) : Prop where
  at_ : ∀ {w w' : World} {r : Nat} {F : Nat → Prop} {tm : Int} {S : List Hp}, R w r F tm S → (∀ k, F k → w'.heap[k]? = w.heap[k]?) → w.heap.size ≤ w'.heap.size → R w' r F tm S
  flt : ∀ {w : World} {r : Nat} {F : Nat → Prop} {tm : Int} {S : List Hp}, R w r F tm S → ∀ k, F k → k < w.heap.size
  un : ∀ {w : World} {r : Nat} {F : Nat → Prop} {tm : Int} {S : List Hp}, R w r F tm S → Un S ∧ S.length ≤ 8
  new : ∀ (tm : Int) (w : World), UW tm → Calls Tryd.prog 20 #[.int .u64 tm] w fun e w' => ∃ r F, e = .returned (.pointer (some ⟨r, 0, none⟩)) ∧ R w' r F tm [] ∧ (∀ k, F k → w.heap.size ≤ k) ∧ Below w.heap.size w w'
  take : ∀ (S : List Hp) (p : Ip) (now tm : Int) (r : Nat) (F : Nat → Prop) (A : Option Addr) (c : Nat) (w : World), R w r F tm S → p.In → p.b.length ≤ 2000 → UW now → c ≤ 9223372036854775807 → Rd w (.slice A p.b.length c) p.b → (p.b ≠ [] → ∀ a, A = some a → ¬ F a.block) →
    Calls Tryd.prog 21 #[.pointer (some ⟨r, 0, none⟩), .agg #[.int .u8 p.tos, .int .u16 p.id, .bool p.df, .bool p.mf, .int .i64 p.off, .int .u8 p.ttl, .int .u8 p.proto, .int .u32 p.src, .int .u32 p.dst, .slice A p.b.length c], .int .u64 now] w fun e w' =>
      ∃ S' o n b F', TakeR S p now S' o n b ∧ TakeVal o n b e w' ∧ R w' r F' tm S' ∧ Did w w' F F' ∧ Apart e A w w' F F'
  tick : ∀ (S : List Hp) (now tm : Int) (r : Nat) (F : Nat → Prop) (w : World), R w r F tm S → UW now → Calls Tryd.prog 37 #[.pointer (some ⟨r, 0, none⟩), .int .u64 now] w fun e w' =>
    ∃ (S' : List Hp) (n : Nat) (F' : Nat → Prop), TickR S tm now S' n ∧ e = .returned (.int .i64 (n : Int)) ∧ R w' r F' tm S' ∧ Did w w' F F'
  len : ∀ (S : List Hp) (tm : Int) (r : Nat) (F : Nat → Prop) (w : World), R w r F tm S → Calls Tryd.prog 22 #[.pointer (some ⟨r, 0, none⟩)] w fun e w' => e = .returned (.int .i64 (S.length : Int)) ∧ w' = w

/-- A reassembler beside a law's own memory. -/
structure Fx (R : World → Nat → (Nat → Prop) → Int → List Hp → Prop) (w : World) (K : Nat → Prop) (W : World) (r : Nat) (tm : Int) (S : List Hp) : Prop where
  ex : ∃ F, R W r F tm S ∧ ∀ k, F k → w.heap.size ≤ k ∧ ¬ K k
  lt : ∀ k, K k → k < W.heap.size
  base : Below w.heap.size w W
section
variable {R : World → Nat → (Nat → Prop) → Int → List Hp → Prop} {w W w' : World} {K : Nat → Prop} {r : Nat} {tm now : Int} {S : List Hp}
theorem Fx.did (h : Fx R w K W r tm S) {F F' : Nat → Prop} {S' : List Hp} (hF : ∀ k, F k → w.heap.size ≤ k ∧ ¬ K k) (hR : R w' r F' tm S') (hD : Did W w' F F') : Fx R w K w' r tm S' ∧ ∀ k, K k → w'.heap[k]? = W.heap[k]? :=
  ⟨⟨⟨F', hR, fun k hk => by
      rcases hD.new k hk with e | e
      · exact hF k e
      · exact ⟨Nat.le_trans h.base.size e, fun hk2 => absurd (h.lt k hk2) (by omega)⟩⟩, fun k hk => Nat.lt_of_lt_of_le (h.lt k hk) hD.size,
    ⟨hD.os.trans h.base.os, hD.tape.trans h.base.tape, hD.output.trans h.base.output, Nat.le_trans h.base.size hD.size, fun k hk => (hD.block k (Nat.lt_of_lt_of_le hk h.base.size) (fun e => by have := (hF k e).1; omega)).trans (h.base.block k hk)⟩⟩,
   fun k hk => hD.block k (h.lt k hk) (fun e => (hF k e).2 hk)⟩
theorem Fx.to (X : FgOk R) (h : Fx R w K W r tm S) (hb : Below W.heap.size W w') : Fx R w K w' r tm S := by
  obtain ⟨F, hR, hF⟩ := h.ex
  exact ⟨⟨F, X.at_ hR (fun k hk => hb.block k (X.flt hR k hk)) hb.size, hF⟩, fun k hk => Nat.lt_of_lt_of_le (h.lt k hk) hb.size, below_to h.base hb h.base.size⟩
theorem Fx.un (X : FgOk R) (h : Fx R w K W r tm S) : Un S ∧ S.length ≤ 8 := by
  obtain ⟨F, hR, _⟩ := h.ex
  exact X.un hR
theorem Fx.new (X : FgOk R) (hB : Below w.heap.size w W) (htm : UW tm) : Calls Tryd.prog 20 #[.int .u64 tm] W fun e w' => ∃ r : Nat, e = .returned (.pointer (some ⟨r, 0, none⟩)) ∧ Fx R w (fun _ => False) w' r tm [] := by
  refine (X.new tm W htm).mono ?_
  rintro e w' ⟨r, F, rfl, hR, hF, hb⟩
  exact ⟨r, rfl, ⟨F, hR, fun k hk => ⟨by have := hF k hk; have := hB.size; omega, fun h => h⟩⟩, fun k hk => hk.elim, below_to hB hb hB.size⟩
theorem rd_old {A : Option Addr} {n c : Nat} {bs : List UInt8} (h : Rd w (.slice A n c) bs) (hb : bs ≠ []) : ∀ a, A = some a → a.block < w.heap.size := by
  rintro a rfl
  obtain ⟨A', c', e, _, hi⟩ := h
  have h0 : 0 < bs.length := List.length_pos_iff.2 hb
  obtain ⟨g, o, e1, hj⟩ := hi h0
  cases e
  cases e1
  have h1 := hj 0 (bs[0]'h0) (List.getElem?_eq_getElem h0)
  exact World.block_lt_of_cell? w _ h1
theorem Fx.take (X : FgOk R) (h : Fx R w K W r tm S) {p : Ip} {A : Option Addr} {c : Nat} (hp : p.In) (hl : p.b.length ≤ 2000) (hn : UW now) (hc : c ≤ 9223372036854775807) (hr : Rd W (.slice A p.b.length c) p.b) (hA : p.b ≠ [] → ∀ a, A = some a → a.block < w.heap.size ∨ K a.block) :
    Calls Tryd.prog 21 #[.pointer (some ⟨r, 0, none⟩), .agg #[.int .u8 p.tos, .int .u16 p.id, .bool p.df, .bool p.mf, .int .i64 p.off, .int .u8 p.ttl, .int .u8 p.proto, .int .u32 p.src, .int .u32 p.dst, .slice A p.b.length c], .int .u64 now] W fun e w' =>
      ∃ S' o n b, TakeR S p now S' o n b ∧ TakeVal o n b e w' ∧ Fx R w K w' r tm S' ∧ ∀ k, K k → w'.heap[k]? = W.heap[k]? := by
  obtain ⟨F, hR, hF⟩ := h.ex
  refine (X.take S p now tm r F A c W hR hp hl hn hc hr (fun hb a ha hFa => by
    rcases hA hb a ha with h1 | h1
    · exact absurd (hF _ hFa).1 (by omega)
    · exact (hF _ hFa).2 h1)).mono ?_
  rintro e w' ⟨S', o, n, b, F', hT, hV, hR', hD, _⟩
  exact ⟨S', o, n, b, hT, hV, h.did hF hR' hD⟩
/-- As Fx.take, of a part that has just been laid. -/
theorem Fx.takeN (X : FgOk R) (h : Fx R w K W r tm S) {W1 : World} (hW1 : Below W.heap.size W W1) {p : Ip} {A : Option Addr} {c : Nat} (hp : p.In) (hl : p.b.length ≤ 2000) (hn : UW now) (hc : c ≤ 9223372036854775807) (hr : Rd W1 (.slice A p.b.length c) p.b) (hA : p.b ≠ [] → ∀ a, A = some a → W.heap.size ≤ a.block) :
    Calls Tryd.prog 21 #[.pointer (some ⟨r, 0, none⟩), .agg #[.int .u8 p.tos, .int .u16 p.id, .bool p.df, .bool p.mf, .int .i64 p.off, .int .u8 p.ttl, .int .u8 p.proto, .int .u32 p.src, .int .u32 p.dst, .slice A p.b.length c], .int .u64 now] W1 fun e w' =>
      ∃ S' o n b, TakeR S p now S' o n b ∧ TakeVal o n b e w' ∧ Fx R w K w' r tm S' ∧ ∀ k, K k → w'.heap[k]? = W1.heap[k]? := by
  obtain ⟨F, hR, hF⟩ := h.ex
  have hR1 := X.at_ hR (fun k hk => hW1.block k (X.flt hR k hk)) hW1.size
  have h1 : Fx R w K W1 r tm S := ⟨⟨F, hR1, hF⟩, fun k hk => Nat.lt_of_lt_of_le (h.lt k hk) hW1.size, below_to h.base hW1 h.base.size⟩
  refine (X.take S p now tm r F A c W1 hR1 hp hl hn hc hr (fun hb a ha hFa => absurd (hA hb a ha) (by have := X.flt hR _ hFa; omega))).mono ?_
  rintro e w' ⟨S', o, n, b, F', hT, hV, hR', hD, _⟩
  exact ⟨S', o, n, b, hT, hV, h1.did hF hR' hD⟩
/-- As Fx.take; what is told is kept from then on as well. -/
theorem Fx.takeA (X : FgOk R) (h : Fx R w K W r tm S) {p : Ip} {A : Option Addr} {c : Nat} (hp : p.In) (hl : p.b.length ≤ 2000) (hn : UW now) (hc : c ≤ 9223372036854775807) (hr : Rd W (.slice A p.b.length c) p.b) (hA : ∀ a, A = some a → a.block < w.heap.size ∨ K a.block) :
    Calls Tryd.prog 21 #[.pointer (some ⟨r, 0, none⟩), .agg #[.int .u8 p.tos, .int .u16 p.id, .bool p.df, .bool p.mf, .int .i64 p.off, .int .u8 p.ttl, .int .u8 p.proto, .int .u32 p.src, .int .u32 p.dst, .slice A p.b.length c], .int .u64 now] W fun e w' =>
      ∃ S' o n b K', TakeR S p now S' o n b ∧ TakeVal o n b e w' ∧ Fx R w K' w' r tm S' ∧ (∀ k, K k → K' k) ∧ (∀ k, K k → w'.heap[k]? = W.heap[k]?) ∧
        ∀ (row : Array Value) (ok ev : Value) (x : Addr) (n c : Nat), e = .returned (.tuple #[.agg row, ok, ev]) → row[9]? = some (.slice (some x) n c) → x.block < w.heap.size ∨ K' x.block := by
  obtain ⟨F, hR, hF⟩ := h.ex
  refine (X.take S p now tm r F A c W hR hp hl hn hc hr (fun _ a ha hFa => by
    rcases hA a ha with h1 | h1
    · exact absurd (hF _ hFa).1 (by omega)
    · exact (hF _ hFa).2 h1)).mono ?_
  rintro e w' ⟨S', o, n, b, F', hT, hV, hR', hD, hAp⟩
  obtain ⟨h1, h2⟩ := h.did hF hR' hD
  refine ⟨S', o, n, b, fun k => K k ∨ ((F k ∨ W.heap.size ≤ k) ∧ k < w'.heap.size ∧ ¬ F' k), hT, hV, ⟨⟨F', hR', fun k hk => ?_⟩, fun k hk => ?_, h1.base⟩, fun k hk => .inl hk, h2, fun row ok ev x n c he hx => ?_⟩
  · obtain ⟨a, b⟩ : w.heap.size ≤ k ∧ ¬ K k := by
      rcases hD.new k hk with e | e
      · exact hF k e
      · exact ⟨Nat.le_trans h.base.size e, fun hk2 => absurd (h.lt k hk2) (by omega)⟩
    exact ⟨a, fun h => h.elim b fun h => h.2.2 hk⟩
  · rcases hk with h3 | ⟨_, h3, _⟩
    · exact h1.lt k h3
    · exact h3
  · rcases hAp row ok ev x n c he hx with ⟨a, ha, hax⟩ | h3
    · rw [← hax]
      exact (hA a ha).imp id .inl
    · exact .inr (.inr h3)
/-- What is new beside the reassembler is kept from then on. -/
theorem Fx.add (X : FgOk R) (h : Fx R w K W r tm S) (hb : Below W.heap.size W w') : Fx R w (fun k => K k ∨ (W.heap.size ≤ k ∧ k < w'.heap.size)) w' r tm S := by
  have h1 := h.to X hb
  obtain ⟨F, hR, hF⟩ := h.ex
  refine ⟨⟨F, X.at_ hR (fun k hk => hb.block k (X.flt hR k hk)) hb.size, fun k hk => ⟨(hF k hk).1, fun h2 => h2.elim (hF k hk).2 fun h3 => by have := X.flt hR k hk; omega⟩⟩, fun k hk => hk.elim (h1.lt k) (fun h3 => h3.2), h1.base⟩
theorem Fx.tick (X : FgOk R) (h : Fx R w K W r tm S) (hn : UW now) : Calls Tryd.prog 37 #[.pointer (some ⟨r, 0, none⟩), .int .u64 now] W fun e w' =>
    ∃ (S' : List Hp) (n : Nat), TickR S tm now S' n ∧ e = .returned (.int .i64 (n : Int)) ∧ Fx R w K w' r tm S' ∧ ∀ k, K k → w'.heap[k]? = W.heap[k]? := by
  obtain ⟨F, hR, hF⟩ := h.ex
  refine (X.tick S now tm r F W hR hn).mono ?_
  rintro e w' ⟨S', n, F', hT, rfl, hR', hD⟩
  exact ⟨S', n, hT, rfl, h.did hF hR' hD⟩
theorem Fx.len (X : FgOk R) (h : Fx R w K W r tm S) : Calls Tryd.prog 22 #[.pointer (some ⟨r, 0, none⟩)] W fun e w' => e = .returned (.int .i64 (S.length : Int)) ∧ w' = W := by
  obtain ⟨F, hR, _⟩ := h.ex
  exact X.len S tm r F W hR
end
/-- A packet in a row, and its bytes. -/
structure Pv where
  p : Ip
  B : Option Addr
  c : Nat
def Pv.row (x : Pv) : List Value := (x.p.row (.slice x.B x.p.b.length x.c)).toList
structure Pv.At (w : World) (g o : Nat) (x : Pv) : Prop where
  c0 : w.cell? ⟨g, o, none⟩ = some (.int .u8 x.p.tos)
  c1 : w.cell? ⟨g, o + 1, none⟩ = some (.int .u16 x.p.id)
  c2 : w.cell? ⟨g, o + 2, none⟩ = some (.bool x.p.df)
  c3 : w.cell? ⟨g, o + 3, none⟩ = some (.bool x.p.mf)
  c4 : w.cell? ⟨g, o + 4, none⟩ = some (.int .i64 x.p.off)
  c5 : w.cell? ⟨g, o + 5, none⟩ = some (.int .u8 x.p.ttl)
  c6 : w.cell? ⟨g, o + 6, none⟩ = some (.int .u8 x.p.proto)
  c7 : w.cell? ⟨g, o + 7, none⟩ = some (.int .u32 x.p.src)
  c8 : w.cell? ⟨g, o + 8, none⟩ = some (.int .u32 x.p.dst)
  c9 : w.cell? ⟨g, o + 9, none⟩ = some (.slice x.B x.p.b.length x.c)
theorem Pv.At.below {w w' : World} {g o : Nat} {x : Pv} (h : Pv.At w g o x) (hb : Below w.heap.size w w') : Pv.At w' g o x := by
  have hc : ∀ {a : Addr} {v : Value}, w.cell? a = some v → w'.cell? a = some v := fun hi => (hb.cell (World.block_lt_of_cell? w _ hi)).trans hi
  exact ⟨hc h.c0, hc h.c1, hc h.c2, hc h.c3, hc h.c4, hc h.c5, hc h.c6, hc h.c7, hc h.c8, hc h.c9⟩
structure Pv.In (w : World) (x : Pv) : Prop where
  inn : x.p.In
  few : x.p.b.length ≤ 2000
  cap : x.c ≤ 9223372036854775807
  rd : Rd w (.slice x.B x.p.b.length x.c) x.p.b
/-- Packets one behind the other. -/
def RowP (w : World) (A : Option Addr) (l : List Pv) : Prop := ∀ k x, l[k]? = some x → ∃ g o, A = some ⟨g, o, none⟩ ∧ Pv.At w g (o + k * 10) x ∧ Pv.In w x
theorem RowP.below {w w' : World} {A : Option Addr} {l : List Pv} (h : RowP w A l) (hb : Below w.heap.size w w') : RowP w' A l := fun k x hk => by
  obtain ⟨g, o, e, h1, h2⟩ := h k x hk
  exact ⟨g, o, e, h1.below hb, h2.inn, h2.few, h2.cap, h2.rd.below hb⟩
/-- What Split tells. -/
def SplitVal (p : Ip) (mtu : Int) (w : World) (e : Ending) (w' : World) : Prop :=
  ∃ (l : List Pv) (A : Option Addr) (c : Nat) (ev : Value), e = .returned (.tuple #[.slice A l.length c, ev]) ∧ l.length ≤ c ∧ c ≤ 9223372036854775807 ∧ ErrIs w' (splitC p mtu) (splitIn p mtu) ev ∧ l.map Pv.p = (if splitC p mtu = 0 then splitL p mtu else []) ∧ RowP w' A l ∧ Below w.heap.size w w'
def SpOk : Prop := ∀ (p : Ip) (A : Option Addr) (c : Nat) (mtu : Int) (w : World), p.In → p.b.length ≤ 2000 → c ≤ 9223372036854775807 → -9223372036854775808 ≤ mtu → mtu ≤ 9223372036854775807 → Rd w (.slice A p.b.length c) p.b →
  Calls Tryd.prog 17 #[.agg #[.int .u8 p.tos, .int .u16 p.id, .bool p.df, .bool p.mf, .int .i64 p.off, .int .u8 p.ttl, .int .u8 p.proto, .int .u32 p.src, .int .u32 p.dst, .slice A p.b.length c], .int .i64 mtu] w (SplitVal p mtu w)
theorem and_bound (x c : Int) (h0 : 0 ≤ c) (h1 : c < 9223372036854775808) : 0 ≤ bits .and .i64 x c ∧ bits .and .i64 x c ≤ c := by
  show 0 ≤ IntKind.i64.wrap ((BitVec.ofInt 64 x &&& BitVec.ofInt 64 c).toNat : Int) ∧ IntKind.i64.wrap ((BitVec.ofInt 64 x &&& BitVec.ofInt 64 c).toNat : Int) ≤ c
  have e : (BitVec.ofInt 64 c).toNat = c.toNat := by rw [BitVec.toNat_ofInt]; omega
  have h2 : (BitVec.ofInt 64 x &&& BitVec.ofInt 64 c).toNat ≤ c.toNat := by
    rw [BitVec.toNat_and, ← e]
    exact Nat.and_le_right
  rw [IntKind.wrap_i64]
  omega
/-- A law's step, in its row. -/
def FSteps (w : World) (A : Option Addr) (M : Nat) : Prop :=
  ∀ k, k < M → ∃ (g o : Nat) (kd : Int) (p : Ip) (B : Option Addr) (c : Nat) (t : Int), A = some ⟨g, o, none⟩ ∧ (-9223372036854775808 ≤ kd ∧ kd ≤ 9223372036854775807) ∧ UW t ∧ p.Fit ∧ c ≤ 9223372036854775807 ∧ Rd w (.slice B p.b.length c) p.b ∧
    w.cell? ⟨g, o + k * 12, none⟩ = some (.int .i64 kd) ∧ (∀ j u, (p.row (.slice B p.b.length c)).toList[j]? = some u → w.cell? ⟨g, o + k * 12 + 1 + j, none⟩ = some u) ∧ w.cell? ⟨g, o + k * 12 + 11, none⟩ = some (.int .u64 t)
end Go.Proofs.YtdmogppkambgaaaDoor
namespace Go.Proofs.YtdmogppkambgaaaDoor
open Go.RowKit

theorem below_drewF (w : World) : Below w.heap.size w w.drew := ⟨rfl, rfl, rfl, Nat.le_refl _, fun _ _ => rfl⟩
def Ip.plain (p : Ip) : Ip := { p.few with off := 0, mf := false, df := false }
theorem Ip.plain_in {p : Ip} (h : p.Fit) : p.plain.In := by
  have k := Ip.few_in h
  exact ⟨k.tos, k.id, (by show -9223372036854775808 ≤ (0 : Int) ∧ (0 : Int) ≤ 9223372036854775807; omega), k.ttl, k.proto, k.src, k.dst, k.b⟩
theorem Ip.plain_len (p : Ip) : p.plain.b.length ≤ 2000 := by show (p.b.take 2000).length ≤ 2000; rw [List.length_take]; omega
theorem Ip.plain_bad (p : Ip) : p.plain.bad = 0 := by
  have := p.plain_len
  refine (Ip.right_iff _).2 ⟨Int.le_refl _, rfl, (fun h => by cases h), ?_⟩
  show (0 : Int) + _ ≤ 65515
  omega
theorem splitC_plain {p : Ip} {mtu : Int} (hm : 68 ≤ mtu) : splitC p.plain mtu = 0 := by
  unfold splitC
  rw [if_neg (by omega), if_neg (by rw [p.plain_bad]; simp)]
  split
  · rfl
  · rfl
/-- The parts of a packet that is no part, where there are two and more. -/
theorem plain_tiles {p : Ip} {mtu : Int} (hm : 68 ≤ mtu) (h2 : 2 ≤ (splitL p.plain mtu).length) : p.plain.b ≠ [] ∧ Tile p.plain 0 (splitL p.plain mtu) ∧ ∀ x ∈ splitL p.plain mtu, x.bad = 0 := by
  have hb : p.plain.b ≠ [] := by
    intro e
    unfold splitL at h2
    rw [if_pos (by rw [e]; show 20 + ((0 : Nat) : Int) ≤ mtu; omega)] at h2
    simp at h2
  obtain ⟨pos, h⟩ := fit_row hm p.plain_bad
  exact ⟨hb, splitL_tile _ hm hb, fun x hx => (h.mem hx).1⟩
theorem mod_i64 {x : Int} {n m : Nat} (h : x = (n : Int)) (_ : 0 < m) : x.tmod (m : Int) = ((n % m : Nat) : Int) := by
  rw [h, Int.tmod_eq_emod_of_nonneg (by omega)]
  omega
/-- The parts that came, without one. -/
def seenG (l : List Ip) (gap : Nat) : Nat → List Ip
  | 0 => []
  | i + 1 => if i % l.length = gap then seenG l gap i else seenG l gap i ++ (l[i % l.length]?).toList
theorem seenG_mem {l : List Ip} {gap : Nat} : ∀ {i : Nat} {x : Ip}, x ∈ seenG l gap i → ∃ j, l[j]? = some x ∧ j ≠ gap
  | 0, _, h => by cases h
  | i + 1, x, h => by
    unfold seenG at h
    split at h
    · exact seenG_mem h
    · rename_i hn
      rcases List.mem_append.1 h with h | h
      · exact seenG_mem h
      · cases e : l[i % l.length]? with
        | none => rw [e] at h; cases h
        | some y =>
          rw [e] at h
          obtain rfl : x = y := by simpa using h
          exact ⟨_, e, hn⟩
theorem seenG_ne {l : List Ip} {gap : Nat} (h2 : 2 ≤ l.length) : ∀ {i : Nat}, 2 ≤ i → seenG l gap i ≠ []
  | 2, _ => by
    unfold seenG seenG seenG
    have e0 : 0 % l.length = 0 := Nat.zero_mod _
    have e1 : 1 % l.length = 1 := Nat.mod_eq_of_lt (by omega)
    rw [e0, e1, List.getElem?_eq_getElem (show 0 < l.length by omega), List.getElem?_eq_getElem (show 1 < l.length by omega)]
    split
    · split
      · omega
      · simp
    · simp
  | i + 3, _ => by
    unfold seenG
    have ih := seenG_ne (gap := gap) h2 (show 2 ≤ i + 2 by omega)
    split
    · exact ih
    · intro e
      exact ih (List.append_eq_nil_iff.1 e).1
theorem cnt_le (L : Nat) {s : Nat} (hs : 0 < s) : cntOf L s ≤ L := by
  rcases Nat.lt_or_ge L (cntOf L s) with h | h
  · have h1 := (cntOf_iff hs).1 h
    have : L * 1 ≤ L * s := Nat.mul_le_mul_left _ hs
    omega
  · exact h
theorem splitL_le (p : Ip) {mtu : Int} (hm : 68 ≤ mtu) : (splitL p mtu).length ≤ p.b.length + 1 := by
  unfold splitL
  split
  · simp
  · have := cnt_le p.b.length (s := szOf mtu) (by have := szOf_facts hm; omega)
    simp [cuts]
    omega
theorem len_step (s : List Ip) (x : Ip) : (if s = [] then 0 else 1) + (if s = [] then 1 else 0) = (if s ++ [x] = [] then 0 else 1) := by
  by_cases h : s = []
  · subst h; rfl
  · rw [if_neg h, if_neg h, if_neg (by simp)]
theorem nodup_inj {α : Type} {l : List α} (h : l.Nodup) {i j : Nat} {x : α} (hi : l[i]? = some x) (hj : l[j]? = some x) : i = j := by
  obtain ⟨h1, h2⟩ := List.getElem?_eq_some_iff.1 hi
  obtain ⟨h3, h4⟩ := List.getElem?_eq_some_iff.1 hj
  rcases Nat.lt_trichotomy i j with e | e | e
  · exact absurd (h2.trans h4.symm) (List.pairwise_iff_getElem.1 h i j h1 h3 e)
  · exact e
  · exact absurd (h4.trans h2.symm) (List.pairwise_iff_getElem.1 h j i h3 h1 e)
theorem seenG_gap {l : List Ip} {gap i : Nat} (hn : l.Nodup) {g : Ip} (hg : l[gap]? = some g) : g ∉ seenG l gap i := fun h => by
  obtain ⟨j, hj, hne⟩ := seenG_mem h
  exact hne (nodup_inj hn hj hg)
theorem heap_one {S : List Hp} {k : Ky} {t : Int} {seen : List Ip} (h : HeapIs S k t seen) (hs : seen ≠ []) (hl : S.length = 1) : ∃ x, S = [x] ∧ x.t = t := by
  rcases h with ⟨e, _⟩ | ⟨x, e, ht, _⟩
  · exact absurd e hs
  · match S, hl with
    | [y], _ =>
      obtain ⟨h1, _⟩ := hget_some e
      obtain rfl : x = y := by simpa using h1
      exact ⟨x, rfl, ht⟩
theorem tick_not {x : Hp} {S' : List Hp} {tm now : Int} {n : Nat} (h : TickR [x] tm now S' n) (h0 : x.t ≤ now) (hl : now - x.t < tm) : S' = [x] ∧ n = 0 := by
  have hla : late tm now x = false := by unfold late; rw [if_neg (by omega), decide_eq_false (by omega)]
  obtain ⟨h1, h2⟩ := h
  simp only [List.filter_cons, hla, Bool.not_false, if_true, List.filter_nil, Bool.false_eq_true, if_false] at h1 h2
  exact ⟨List.perm_singleton.1 h1, by simpa using h2⟩
theorem tick_late {x : Hp} {S' : List Hp} {tm now : Int} {n : Nat} (h : TickR [x] tm now S' n) (h0 : x.t ≤ now) (hl : tm ≤ now - x.t) : S' = [] ∧ n = 1 := by
  have hla : late tm now x = true := by unfold late; rw [if_neg (by omega), decide_eq_true hl]
  obtain ⟨h1, h2⟩ := h
  simp only [List.filter_cons, hla, Bool.not_true, if_true, List.filter_nil, Bool.false_eq_true, if_false] at h1 h2
  exact ⟨List.perm_nil.1 h1, by simpa using h2⟩
/-- Xor with a byte. -/
theorem fbyte_xor (a : UInt8) (n : Nat) (hn : n < 256) : ∃ x : UInt8, bits .xor .u8 (a.toNat : Int) (n : Int) = (x.toNat : Int) ∧ (x = a ↔ n = 0) := by
  have ha := a.toNat_lt
  have hx : a.toNat ^^^ n < 256 := Nat.xor_lt_two_pow (n := 8) ha hn
  have hv : (UInt8.ofNat (a.toNat ^^^ n)).toNat = a.toNat ^^^ n := by rw [ofNat_lt]; exact Nat.mod_eq_of_lt hx
  refine ⟨UInt8.ofNat (a.toNat ^^^ n), ?_, ?_⟩
  · rw [u8_xor_nat a.toNat n ha hn, hv]
  · rw [← UInt8.toNat_inj, hv]
    constructor
    · intro h
      have h2 : a.toNat ^^^ (a.toNat ^^^ n) = a.toNat ^^^ a.toNat := by rw [h]
      rwa [← Nat.xor_assoc, Nat.xor_self, Nat.zero_xor] at h2
    · rintro rfl
      exact Nat.xor_zero _
theorem spoil {S S' : List Hp} {k : Ky} {t now : Int} {seen : List Ip} {o : Option Ip} {c : Nat} {b : Bool} {x x2 : Ip} (hH : HeapIs S k t seen) (hx : x ∈ seen) (hl : S.length = 1) (hb : x2.bad = 0) (ha : ¬ Alone x2) (hk : x2.key4 = k) (hg : ¬ goesT x x2)
    (h : TakeR S x2 now S' o c b) : o = none ∧ c = 3 ∧ b = false ∧ S' = [] := by
  have hh : x ∈ held S x2.key4 := by rw [hk]; exact (hH.held x).2 hx
  have hne : seen ≠ [] := fun e => by rw [e] at hx; cases hx
  obtain ⟨h1, rfl, _⟩ := heap_one hH hne hl
  have hk1 : h1.k = k := by
    rcases hH with ⟨e, _⟩ | ⟨y, e, _⟩
    · exact absurd e hne
    · obtain ⟨e1, e2⟩ := hget_some e
      obtain rfl : y = h1 := by simpa using e1
      exact e2
  have hd : hdel [h1] x2.key4 = [] := by simp [hdel, hk1, hk]
  cases h with
  | wrong hw => exact absurd hb hw
  | alone _ h2 => exact absurd h2 ha
  | full _ _ _ h8 => simp at h8
  | spoilt _ _ _ _ _ hS =>
    rw [hd] at hS
    exact ⟨rfl, rfl, rfl, List.perm_nil.1 hS⟩
  | waits _ _ _ _ hgo _ _ => exact absurd (hgo x hh) hg
  | whole _ _ _ _ _ hgo _ _ => exact absurd (hgo x hh) hg
theorem set_bad (x : Ip) (i : Nat) (u : UInt8) : ({ x with b := x.b.set i u } : Ip).bad = x.bad := by
  unfold Ip.bad Ip.arg
  simp only [List.length_set]
theorem set_same {l : List UInt8} {j : Nat} {u : UInt8} (h : l[j]? = some u) : l.set j u = l := by
  obtain ⟨h1, h2⟩ := List.getElem?_eq_some_iff.1 h
  rw [← h2]
  exact List.set_getElem_self h1
theorem take_lt {l : List Ip} {i j : Nat} {x : Ip} (hn : l.Nodup) (hx : l[j]? = some x) (h : i ≤ j) : x ∉ l.take i := fun hm => by
  obtain ⟨k, hk⟩ := List.getElem?_of_mem hm
  rw [List.getElem?_take] at hk
  split at hk
  · have := nodup_inj hn hk hx
    omega
  · cases hk
theorem take_mem {l : List Ip} {i j : Nat} {x : Ip} (hx : l[j]? = some x) (h : j < i) : x ∈ l.take i := by
  refine List.mem_of_getElem? (i := j) ?_
  rw [List.getElem?_take_of_lt h]
  exact hx
end Go.Proofs.YtdmogppkambgaaaDoor
namespace Go.Proofs.YtdmogppkambgaaaDoor

def z8 : List UInt8 := [0, 0, 0, 0, 0, 0, 0, 0]
def eightP (i : Nat) : Ip := { noIp with id := i, mf := true, b := z8 }
def endP : Ip := { noIp with id := 3, off := 8, b := [101, 110, 100] }
def Ip.head0 (p : Ip) : Ip := { p.few with off := 0, mf := false }
theorem eight_bad (i : Nat) : (eightP i).bad = 0 := (Ip.right_iff _).2 ⟨Int.le_refl _, rfl, (fun _ => by show 0 < z8.length ∧ z8.length % 8 = 0; decide), by show (0 : Int) + (z8.length : Int) ≤ 65515; decide⟩
theorem eight_in {i : Nat} (h : i < 65536) : (eightP i).In := ⟨(by show 0 < 256; decide), h, (by show -9223372036854775808 ≤ (0 : Int) ∧ (0 : Int) ≤ 9223372036854775807; decide), (by show 0 < 256; decide), (by show 0 < 256; decide), (by show 0 < 4294967296; decide), (by show 0 < 4294967296; decide), (by show z8.length ≤ 1099511627776; decide)⟩
theorem end_in : endP.In := ⟨by decide, by decide, by decide, by decide, by decide, by decide, by decide, by decide⟩
theorem end_bad : endP.bad = 0 := (Ip.right_iff _).2 ⟨by decide, rfl, (fun h => by cases h), by decide⟩
theorem Ip.head0_in {p : Ip} (h : p.Fit) : p.head0.In := by
  have k := Ip.few_in h
  exact ⟨k.tos, k.id, (by show -9223372036854775808 ≤ (0 : Int) ∧ (0 : Int) ≤ 9223372036854775807; omega), k.ttl, k.proto, k.src, k.dst, k.b⟩
theorem Ip.head0_bad (p : Ip) : p.head0.bad = 0 := by
  have h : p.head0.b.length ≤ 2000 := p.plain_len
  refine (Ip.right_iff _).2 ⟨Int.le_refl _, rfl, (fun h => by cases h), ?_⟩
  show (0 : Int) + _ ≤ 65515
  omega
theorem held_none {S : List Hp} {k : Ky} (h : hget S k = none) : held S k = [] := by unfold held; rw [h]
def endObj : Obj := .cells #[.int .u8 101, .int .u8 110, .int .u8 100] 5 (3, 4)
theorem end_rd (w : World) : Rd (w.alloc (.cells #[.int .u8 101, .int .u8 110, .int .u8 100] 5 (3, 4))) (.slice (some ⟨w.heap.size, 0, none⟩) 3 3) [101, 110, 100] := by
  refine ⟨_, 3, rfl, Nat.le_refl _, fun _ => ⟨_, 0, rfl, fun i u hi => ?_⟩⟩
  have h : (w.alloc endObj).heap[w.heap.size]? = some endObj := heap_alloc_new w _
  have hl : i < 3 := (List.getElem?_eq_some_iff.1 hi).1
  show (w.alloc endObj).cell? _ = _
  unfold World.cell?
  rw [h]
  obtain rfl | rfl | rfl : i = 0 ∨ i = 1 ∨ i = 2 := by omega
  · cases hi; rfl
  · cases hi; rfl
  · cases hi; rfl
theorem rd_some {w : World} {A : Option Addr} {n c : Nat} {bs : List UInt8} (h : Rd w (.slice A n c) bs) (hb : 0 < bs.length) : ∃ x, A = some x := by
  obtain ⟨A', d, e, _, hr⟩ := h
  obtain ⟨g, o, e2, _⟩ := hr hb
  cases e
  exact ⟨_, e2⟩
theorem rd_blk {w w' : World} {x : Addr} {n c : Nat} {bs : List UInt8} (h : Rd w (.slice (some x) n c) bs) (hb : w'.heap[x.block]? = w.heap[x.block]?) : Rd w' (.slice (some x) n c) bs := by
  obtain ⟨A, d, e, hd, hr⟩ := h
  refine ⟨A, d, e, hd, fun h0 => ?_⟩
  obtain ⟨g, o, e2, hk⟩ := hr h0
  subst e2
  cases e
  refine ⟨g, o, rfl, fun i u hi => ?_⟩
  have h := hk i u hi
  unfold World.cell? at h ⊢
  rw [show w'.heap[g]? = w.heap[g]? from hb]
  exact h
section
variable {S S' : List Hp} {x : Ip} {now : Int} {o : Option Ip} {c : Nat} {b : Bool}
theorem alone_take (hb : x.bad = 0) (ha : Alone x) (hT : TakeR S x now S' o c b) : o = some x ∧ c = 0 ∧ b = false ∧ S' = S := by
  cases hT with
  | wrong h => exact absurd hb h
  | alone => exact ⟨rfl, rfl, rfl, rfl⟩
  | full _ hn => exact absurd ha hn
  | spoilt _ _ hn => exact absurd ha hn
  | waits _ _ hn => exact absurd ha hn
  | whole _ _ _ hn => exact absurd ha hn
theorem lone_full (hb : x.bad = 0) (hm : x.mf = true) (hn : hget S x.key4 = none) (h8 : 8 ≤ S.length) (hT : TakeR S x now S' o c b) : o = none ∧ c = 5 ∧ b = false ∧ S' = S := by
  cases hT with
  | wrong h => exact absurd hb h
  | alone h ha => rw [ha.2] at hm; cases hm
  | full => exact ⟨rfl, rfl, rfl, rfl⟩
  | spoilt _ h ha hr => exact absurd (hr hn) (by omega)
  | waits _ h ha hr => exact absurd (hr hn) (by omega)
  | whole _ _ h ha hr => exact absurd (hr hn) (by omega)
theorem lone_wait (hU : Un S) (hb : x.bad = 0) (hm : x.mf = true) (hn : hget S x.key4 = none) (h8 : S.length < 8) (hT : TakeR S x now S' o c b) :
    o = none ∧ c = 0 ∧ b = false ∧ S'.length = S.length + 1 ∧ held S' x.key4 = [x] := by
  have h0 := held_none hn
  cases hT with
  | wrong h => exact absurd hb h
  | alone h ha => rw [ha.2] at hm; cases hm
  | full _ _ _ h9 => omega
  | spoilt _ h ha hr hg =>
    obtain ⟨y, hy, _⟩ := hg
    rw [h0] at hy
    cases hy
  | waits _ h ha hr hg hf hS =>
    rw [h0, List.nil_append, hdel_none hn] at hS
    refine ⟨rfl, rfl, rfl, by rw [hS.length_eq, List.length_cons], ?_⟩
    have hU2 : Un (⟨x.key4, since S x.key4 now, [x]⟩ :: S) := List.pairwise_cons.2 ⟨fun z hz e => hget_none.1 hn z hz e.symm, hU⟩
    unfold held
    rw [hget_perm hU2 hS, show x.key4 = (⟨x.key4, since S x.key4 now, [x]⟩ : Hp).k from rfl, hget_cons_same]
  | whole _ q h ha hr hg hq =>
    rw [h0] at hq
    obtain ⟨z, hz, hzm, _⟩ := hq.full.1
    obtain rfl : z = x := by simpa using hz
    rw [hm] at hzm
    cases hzm
end
structure EightIs (S : List Hp) (n : Nat) : Prop where
  un : Un S
  len : S.length = n
  has : ∀ j, j < n → held S (eightP j).key4 = [eightP j]
  no : ∀ j, n ≤ j → hget S (eightP j).key4 = none
theorem eight_key {i j : Nat} (h : i ≠ j) : (eightP i).key4 ≠ (eightP j).key4 := fun e => h (congrArg (fun k : Ky => k.2.2.2) e)
theorem eight_nil : EightIs [] 0 := ⟨List.Pairwise.nil, rfl, fun j hj => absurd hj (Nat.not_lt_zero j), fun _ _ => rfl⟩
theorem eight_step {S S' : List Hp} {i n : Nat} {now : Int} {o : Option Ip} {c : Nat} {b : Bool} (h : EightIs S n) (hn : n = min i 8) (hT : TakeR S (eightP i) now S' o c b) :
    o = none ∧ b = false ∧ c = (if i < 8 then 0 else 5) ∧ EightIs S' (min (i + 1) 8) := by
  by_cases hi : i < 8
  · have e : n = i := by omega
    subst e
    obtain ⟨rfl, rfl, rfl, hl, hh⟩ := lone_wait h.un (eight_bad n) rfl (h.no n (Nat.le_refl _)) (by rw [h.len]; omega) hT
    refine ⟨rfl, rfl, by rw [if_pos hi], hT.un h.un, by rw [hl, h.len]; omega, fun j hj => ?_, fun j hj => ?_⟩
    · by_cases e : j = n
      · rw [e]; exact hh
      · have := h.has j (by omega)
        unfold held at this ⊢
        rw [hT.other h.un (eight_key e)]
        exact this
    · rw [hT.other h.un (eight_key (by omega))]
      exact h.no j (by omega)
  · have e : n = 8 := by omega
    subst e
    obtain ⟨rfl, rfl, rfl, rfl⟩ := lone_full (eight_bad i) rfl (h.no i (by omega)) (by rw [h.len]; omega) hT
    exact ⟨rfl, rfl, by rw [if_neg hi], by rw [show min (i + 1) 8 = 8 by omega]; exact h⟩
theorem end_goes : goesT (eightP 3) endP := by
  refine ⟨fun k h1 h2 => ?_, (fun h => by cases h), fun _ => by decide⟩
  have a : k < (eightP 3).off + (eightP 3).b.length := h1.2
  have b : endP.off ≤ k := h2.1
  have a' : k < 8 := a
  have b' : 8 ≤ k := b
  omega
theorem end_full : Full [eightP 3, endP] := by
  refine ⟨11, ⟨endP, by simp, rfl, rfl⟩, fun k h0 h1 => ?_⟩
  by_cases h : k < 8
  · exact ⟨eightP 3, by simp, h0, by show k < 8; exact h⟩
  · exact ⟨endP, by simp, (by show 8 ≤ k; omega), by show k < 11; exact h1⟩
theorem end_bytes {q : Ip} (hq : IsWhole [eightP 3, endP] q) : q.b = z8 ++ [101, 110, 100] := by
  have hl : q.b.length = 11 := by
    obtain ⟨z, hz, hzm, hze⟩ := hq.full.1
    rcases List.mem_cons.1 hz with rfl | hz
    · cases hzm
    · obtain rfl : z = endP := by simpa using hz
      have : (11 : Int) = (q.b.length : Int) := hze
      omega
  have h1 : ∀ k : Nat, k < 8 → q.b[k]? = z8[k]? := fun k hk => by
    have h := hq.bytes (eightP 3) (by simp) (k : Int) ⟨(by show (0 : Int) ≤ k; omega), (by show (k : Int) < 8; omega)⟩ (by omega)
    have e : ((k : Int) - (eightP 3).off).toNat = k := by show ((k : Int) - 0).toNat = k; omega
    rw [e] at h
    exact h
  have h2 : ∀ k : Nat, 8 ≤ k → k < 11 → q.b[k]? = ([101, 110, 100] : List UInt8)[k - 8]? := fun k hk hk2 => by
    have h := hq.bytes endP (by simp) (k : Int) ⟨(by show (8 : Int) ≤ k; omega), (by show (k : Int) < 11; omega)⟩ (by omega)
    have e : ((k : Int) - endP.off).toNat = k - 8 := by show ((k : Int) - 8).toNat = k - 8; omega
    rw [e] at h
    exact h
  refine List.ext_getElem? fun k => ?_
  by_cases a : k < 8
  · rw [h1 k a, List.getElem?_append_left (by show k < 8; exact a)]
  · by_cases b : k < 11
    · rw [h2 k (by omega) b, List.getElem?_append_right (by show 8 ≤ k; omega)]
      rfl
    · rw [List.getElem?_eq_none (by omega), List.getElem?_eq_none (by show 11 ≤ k; omega)]
/-- The second part: whole, and a heap less. -/
theorem end_take {S S' : List Hp} {now : Int} {o : Option Ip} {c : Nat} {b : Bool} (h : EightIs S 8) (hT : TakeR S endP now S' o c b) :
    ∃ q, o = some q ∧ c = 0 ∧ b = false ∧ q.b = z8 ++ [101, 110, 100] ∧ Un S' ∧ S'.length = 7 ∧ hget S' (eightP 9).key4 = none := by
  have h0 : held S endP.key4 = [eightP 3] := h.has 3 (by omega)
  have hU := hT.un h.un
  have hno := (hT.other h.un (k := (eightP 9).key4) (eight_key (i := 9) (j := 3) (by omega))).trans (h.no 9 (by omega))
  have hs : (hget S endP.key4).isSome = true := by
    cases e : hget S endP.key4 with
    | none => rw [held_none e] at h0; cases h0
    | some y => rfl
  have hl := len_hdel h.un endP.key4
  rw [if_pos hs, h.len] at hl
  cases hT with
  | wrong hb => exact absurd end_bad hb
  | alone _ ha => exact absurd ha.1 (by decide)
  | full _ _ hn => rw [hn] at hs; cases hs
  | spoilt _ _ _ _ hg =>
    obtain ⟨y, hy, hy2⟩ := hg
    rw [h0] at hy
    obtain rfl : y = eightP 3 := by simpa using hy
    exact absurd end_goes hy2
  | waits _ _ _ _ _ hf =>
    rw [h0] at hf
    exact absurd end_full hf
  | whole _ q _ _ _ _ hq hS =>
    rw [h0] at hq
    exact ⟨q, rfl, rfl, rfl, end_bytes hq, hU, by have := hS.length_eq; omega, hno⟩
end Go.Proofs.YtdmogppkambgaaaDoor
namespace Go.Proofs.YtdmogppkambgaaaDoor
theorem u64_wf {n : Int} (h : (Lit.int .u64 n).wf = true) : UW n := by
  have hmin : IntKind.u64.min = 0 := by rfl
  have hmax : IntKind.u64.max = 18446744073709551615 := by rfl
  simp [Lit.wf, hmin, hmax] at h
  unfold UW
  omega
end Go.Proofs.YtdmogppkambgaaaDoor
