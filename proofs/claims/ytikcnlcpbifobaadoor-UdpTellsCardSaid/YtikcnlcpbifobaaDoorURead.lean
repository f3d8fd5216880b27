/-
  What is proved: udp's parse by contract: bytes that end too early, what is wrong, a datagram.
  Conditions: the bytes are fewer than 2^40.
-/
import Derived.Test.YtikcnlcpbifobaaDoorUTold
import Derived.Laws.Rows
namespace Go.Proofs.YtikcnlcpbifobaaDoor
open Go.RowKit

/-- A reader that is younger than 'w', of which all is as it was. -/
structure Rs (w W : World) (q : Nat) (bs : List UInt8) : Prop where
  rdr : Rdr W ⟨q, 0, none⟩ bs
  old : Below w.heap.size w W
  new : w.heap.size ≤ q
  len : bs.length ≤ 1099511627776
section
variable {w W : World} {q : Nat} {r : List UInt8}
theorem Rs.step (h : Rs w W q r) {W' : World} {r' : List UInt8} (h1 : Rdr W' ⟨q, 0, none⟩ r') (h2 : Fr (· = ⟨q, 0, none⟩) W W') (hl : r'.length ≤ 1099511627776) : Rs w W' q r' :=
  ⟨h1, below_to h.old (h2.below (B := w.heap.size) h.old.size (fun x hx => by subst hx; exact h.new)) (Nat.le_refl _), h.new, hl⟩
theorem Rs.u16 (n : Nat) (hn : n < 65536) (h : Rs w W q (be2 n ++ r)) :
    Calls Tryd.prog 31 #[.pointer (some ⟨q, 0, none⟩)] W fun e w' => e = .returned (.tuple #[.int .u16 n, .nilIface]) ∧ Rs w w' q r := by
  refine (U16_ok _ _ _ _ _ h.rdr h.len).mono ?_
  rintro e w' ⟨rfl, h1, h2, _⟩
  have e1 : (((UInt8.ofNat (n / 256)).toNat : Int)) * 256 + (UInt8.ofNat n).toNat = (n : Int) := by rw [ofNat_lt, ofNat_lt]; omega
  rw [e1]
  exact ⟨rfl, h.step h1 h2 (by have := h.len; simp [be2] at this; omega)⟩
theorem Rs.u16_short (h : Rs w W q r) (hn : r.length < 2) :
    Calls Tryd.prog 31 #[.pointer (some ⟨q, 0, none⟩)] W fun e w' => ∃ b, e = .returned (.tuple #[.int .u16 0, .iface 98 (.pointer (some ⟨b, 0, none⟩))]) ∧ Chain w' 2 [octetsWord] (.iface 98 (.pointer (some ⟨b, 0, none⟩))) ∧ Below W.heap.size W w' := by
  refine (U16_short _ _ _ h.rdr hn).mono ?_
  rintro e w' ⟨rfl, rfl⟩
  exact ⟨_, rfl, chain_one W octetsWord 2, below_al (Below.refl _ _) _⟩
end
theorem Fr.dgAt {q : Nat} {W W' : World} {G : Nat} {p : Dg} {bv : Value} (hf : Fr (· = ⟨q, 0, none⟩) W W') (h : DgAt W G p bv) (hq : G ≠ q) : DgAt W' G p bv :=
  (hf.block G h.lt (fun a ha => by subst ha; exact fun e => hq e.symm)).trans h
theorem Rs.bytesI {w W : World} {q : Nat} {r : List UInt8} (h : Rs w W q r) (n : Nat) (z : Int) (hz : z = (n : Int)) (hn : n ≤ r.length) :
    Calls Tryd.prog 36 #[.pointer (some ⟨q, 0, none⟩), .int .i64 z] W fun e w' => ∃ b, e = .returned (.tuple #[.slice (some ⟨b, 0, none⟩) n n, .nilIface]) ∧ W.heap.size ≤ b ∧ w'.heap[b]? = some (bytesObj (r.take n)) ∧ Rs w w' q (r.drop n) := by
  subst hz
  refine (Bytes_ok _ _ _ _ h.rdr hn h.len).mono ?_
  rintro e w' ⟨rfl, ht⟩
  exact ⟨_, rfl, Nat.le_refl _, ht.part, h.step ht.rdr ht.fr (by have := h.len; simp; omega)⟩
def noDgRow : Array Value := #[.int .u16 0, .int .u16 0, .bool false, .slice none 0 0]
def noDgObj : Obj := .cells #[.int .u16 0, .int .u16 0, .bool false, .slice none 0 0] 25
def noDg : Dg := ⟨0, 0, false, []⟩
theorem noDg_obj : noDg.obj (.slice none 0 0) = noDgObj := rfl
theorem noDgRow_plain : Plain noDgRow := dgRow_plain noDg none 0 0
theorem noDgRow_one : noDgRow.all (·.oneCell') = true := by simp [noDgRow, Value.oneCell']
/-- What parse panics with. -/
def PErr (n : Int) (l : List ByteArray) (w : World) (e : Ending) (w' : World) : Prop := ∃ (T : TypeId) (u : Value), e = .panicked [{ v := wrongIface T u, recovered := false }] ∧ Chain w' n l (.iface T u) ∧ Below w.heap.size w w'
/-- What parse tells of a datagram. -/
def PDg (d : Dg) (w : World) (e : Ending) (w' : World) : Prop := ∃ b, e = .returned (.agg #[.int .u16 d.src, .int .u16 d.dst, .bool d.plain, .slice (some ⟨b, 0, none⟩) d.b.length d.b.length]) ∧ w.heap.size ≤ b ∧ w'.heap[b]? = some (bytesObj d.b) ∧ Below w.heap.size w w'
theorem be2_split (l : List UInt8) (h : 2 ≤ l.length) : ∃ a r, a < 65536 ∧ l = be2 a ++ r := by
  match l, h with
  | x :: y :: r, _ =>
    have hx := x.toNat_lt
    have hy := y.toNat_lt
    refine ⟨x.toNat * 256 + y.toNat, r, by omega, ?_⟩
    unfold be2
    have h1 : UInt8.ofNat ((x.toNat * 256 + y.toNat) / 256) = x := by apply UInt8.toNat_inj.1; rw [ofNat_lt]; omega
    have h2 : UInt8.ofNat (x.toNat * 256 + y.toNat) = y := by apply UInt8.toNat_inj.1; rw [ofNat_lt]; omega
    rw [h1, h2]
    rfl
set_option maxRecDepth 100000 in
set_option maxHeartbeats 4000000 in
theorem uparse_short0  (r : List UInt8) (hs : r.length < 2) (v : Value) (s t : Nat) (w : World) (hr : Rd w v (r)) :
    Calls Tryd.prog 18 #[v, .int .u32 (s : Int), .int .u32 (t : Int)] w (PErr 2 [octetsWord] w) := by
  have hL : (r).length ≤ 1099511627776 := by (try simp only [List.length_append, be2_len]); omega
  have HB := Lib.hid (below_al (Below.refl w.heap.size w) noDgObj)
  have HX : Hid (DgAt (w.alloc noDgObj) w.heap.size noDg (.slice none 0 0)) := by have h := DgAt.new w noDg (.slice none 0 0); rwa [noDg_obj] at h
  have HR := Lib.hid (Read_facts v (r) (w.alloc noDgObj) (hr.below (below_al (Below.refl _ _) _)) hL)
  have HL0 : Hid ((r).length ≤ 1099511627776) := hL
  have HS : Hid (r.length < 2) := hs
  clear hr hL hs
  generalize hW : w.alloc noDgObj = W at HX HB HR
  unfold noDgObj at hW
  go_enter Tryd.func18, Tryd.ntmps18
  go_upto_region 1 with fail
  clear hW
  go_wp2_with fail
  refine HR.out.mono ?_
  rintro e w0 ⟨q, rfl, h1, h2, h3⟩
  have R0 : Hid (Rs W w0 q (r)) := ⟨h2, h3, h1, HL0.out⟩
  clear h1 h2 h3 HR
  go_wp2_with fail
  refine (R0.out.u16_short HS.out).mono ?_
  rintro e wx ⟨bb, rfl, hc, hb⟩
  have HQ := Lib.hid (below_to HB.out (below_to R0.out.old hb R0.out.old.size) HB.out.size)
  have HC := Lib.hid hc
  clear hb hc R0 HX HB
  go_wp2_with fail
  refine (must16_bad _ _ _ _).mono ?_
  rintro e wz ⟨rfl, rfl⟩
  go_wp2_with fail
  exact ⟨rfl, _, _, rfl, HC.out, HQ.out⟩
set_option maxRecDepth 100000 in
set_option maxHeartbeats 4000000 in
theorem uparse_short1 (a : Nat) (ha : a < 65536) (r : List UInt8) (hs : r.length < 2) (v : Value) (s t : Nat) (w : World) (hr : Rd w v (be2 a ++ r)) :
    Calls Tryd.prog 18 #[v, .int .u32 (s : Int), .int .u32 (t : Int)] w (PErr 2 [octetsWord] w) := by
  have hL : (be2 a ++ r).length ≤ 1099511627776 := by (try simp only [List.length_append, be2_len]); omega
  have HB := Lib.hid (below_al (Below.refl w.heap.size w) noDgObj)
  have HX : Hid (DgAt (w.alloc noDgObj) w.heap.size noDg (.slice none 0 0)) := by have h := DgAt.new w noDg (.slice none 0 0); rwa [noDg_obj] at h
  have HR := Lib.hid (Read_facts v (be2 a ++ r) (w.alloc noDgObj) (hr.below (below_al (Below.refl _ _) _)) hL)
  have HL0 : Hid ((be2 a ++ r).length ≤ 1099511627776) := hL
  have Ha : Hid (a < 65536) := ha
  have HS : Hid (r.length < 2) := hs
  clear hr hL hs ha
  generalize hW : w.alloc noDgObj = W at HX HB HR
  unfold noDgObj at hW
  go_enter Tryd.func18, Tryd.ntmps18
  go_upto_region 1 with fail
  clear hW
  go_wp2_with fail
  refine HR.out.mono ?_
  rintro e w0 ⟨q, rfl, h1, h2, h3⟩
  have R0 : Hid (Rs W w0 q (be2 a ++ r)) := ⟨h2, h3, h1, HL0.out⟩
  clear h1 h2 h3 HR
  go_wp2_with fail
  refine (R0.out.u16 a Ha.out).mono ?_
  rintro e w1 ⟨rfl, hq⟩
  have R1 := Lib.hid hq
  clear hq R0
  go_wp2_with fail
  refine (must16_ok _ _).mono ?_
  rintro e wz ⟨rfl, rfl⟩
  go_wp2_with fail
  refine (R1.out.u16_short HS.out).mono ?_
  rintro e wx ⟨bb, rfl, hc, hb⟩
  have HQ := Lib.hid (below_to HB.out (below_to R1.out.old hb R1.out.old.size) HB.out.size)
  have HC := Lib.hid hc
  clear hb hc R1 HX HB
  go_wp2_with fail
  refine (must16_bad _ _ _ _).mono ?_
  rintro e wz ⟨rfl, rfl⟩
  go_wp2_with fail
  exact ⟨rfl, _, _, rfl, HC.out, HQ.out⟩
set_option maxRecDepth 100000 in
set_option maxHeartbeats 4000000 in
theorem uparse_short2 (a : Nat) (ha : a < 65536) (b : Nat) (hb : b < 65536) (r : List UInt8) (hs : r.length < 2) (v : Value) (s t : Nat) (w : World) (hr : Rd w v (be2 a ++ (be2 b ++ r))) :
    Calls Tryd.prog 18 #[v, .int .u32 (s : Int), .int .u32 (t : Int)] w (PErr 2 [octetsWord] w) := by
  have hL : (be2 a ++ (be2 b ++ r)).length ≤ 1099511627776 := by (try simp only [List.length_append, be2_len]); omega
  have HB := Lib.hid (below_al (Below.refl w.heap.size w) noDgObj)
  have HX : Hid (DgAt (w.alloc noDgObj) w.heap.size noDg (.slice none 0 0)) := by have h := DgAt.new w noDg (.slice none 0 0); rwa [noDg_obj] at h
  have HR := Lib.hid (Read_facts v (be2 a ++ (be2 b ++ r)) (w.alloc noDgObj) (hr.below (below_al (Below.refl _ _) _)) hL)
  have HL0 : Hid ((be2 a ++ (be2 b ++ r)).length ≤ 1099511627776) := hL
  have Ha : Hid (a < 65536) := ha
  have Hb : Hid (b < 65536) := hb
  have HS : Hid (r.length < 2) := hs
  clear hr hL hs ha hb
  generalize hW : w.alloc noDgObj = W at HX HB HR
  unfold noDgObj at hW
  go_enter Tryd.func18, Tryd.ntmps18
  go_upto_region 1 with fail
  clear hW
  go_wp2_with fail
  refine HR.out.mono ?_
  rintro e w0 ⟨q, rfl, h1, h2, h3⟩
  have R0 : Hid (Rs W w0 q (be2 a ++ (be2 b ++ r))) := ⟨h2, h3, h1, HL0.out⟩
  clear h1 h2 h3 HR
  go_wp2_with fail
  refine (R0.out.u16 a Ha.out).mono ?_
  rintro e w1 ⟨rfl, hq⟩
  have R1 := Lib.hid hq
  clear hq R0
  go_wp2_with fail
  refine (must16_ok _ _).mono ?_
  rintro e wz ⟨rfl, rfl⟩
  go_wp2_with fail
  refine (R1.out.u16 b Hb.out).mono ?_
  rintro e w2 ⟨rfl, hq⟩
  have R2 := Lib.hid hq
  clear hq R1
  go_wp2_with fail
  refine (must16_ok _ _).mono ?_
  rintro e wz ⟨rfl, rfl⟩
  go_wp2_with fail
  refine (R2.out.u16_short HS.out).mono ?_
  rintro e wx ⟨bb, rfl, hc, hb⟩
  have HQ := Lib.hid (below_to HB.out (below_to R2.out.old hb R2.out.old.size) HB.out.size)
  have HC := Lib.hid hc
  clear hb hc R2 HX HB
  go_wp2_with fail
  refine (must16_bad _ _ _ _).mono ?_
  rintro e wz ⟨rfl, rfl⟩
  go_wp2_with fail
  exact ⟨rfl, _, _, rfl, HC.out, HQ.out⟩
set_option maxRecDepth 100000 in
set_option maxHeartbeats 4000000 in
theorem uparse_short3 (a : Nat) (ha : a < 65536) (b : Nat) (hb : b < 65536) (n : Nat) (hn : n < 65536) (r : List UInt8) (hs : r.length < 2) (v : Value) (s t : Nat) (w : World) (hr : Rd w v (be2 a ++ (be2 b ++ (be2 n ++ r)))) :
    Calls Tryd.prog 18 #[v, .int .u32 (s : Int), .int .u32 (t : Int)] w (PErr 2 [octetsWord] w) := by
  have hL : (be2 a ++ (be2 b ++ (be2 n ++ r))).length ≤ 1099511627776 := by (try simp only [List.length_append, be2_len]); omega
  have HB := Lib.hid (below_al (Below.refl w.heap.size w) noDgObj)
  have HX : Hid (DgAt (w.alloc noDgObj) w.heap.size noDg (.slice none 0 0)) := by have h := DgAt.new w noDg (.slice none 0 0); rwa [noDg_obj] at h
  have HR := Lib.hid (Read_facts v (be2 a ++ (be2 b ++ (be2 n ++ r))) (w.alloc noDgObj) (hr.below (below_al (Below.refl _ _) _)) hL)
  have HL0 : Hid ((be2 a ++ (be2 b ++ (be2 n ++ r))).length ≤ 1099511627776) := hL
  have Ha : Hid (a < 65536) := ha
  have Hb : Hid (b < 65536) := hb
  have Hn : Hid (n < 65536) := hn
  have HS : Hid (r.length < 2) := hs
  clear hr hL hs ha hb hn
  generalize hW : w.alloc noDgObj = W at HX HB HR
  unfold noDgObj at hW
  go_enter Tryd.func18, Tryd.ntmps18
  go_upto_region 1 with fail
  clear hW
  go_wp2_with fail
  refine HR.out.mono ?_
  rintro e w0 ⟨q, rfl, h1, h2, h3⟩
  have R0 : Hid (Rs W w0 q (be2 a ++ (be2 b ++ (be2 n ++ r)))) := ⟨h2, h3, h1, HL0.out⟩
  clear h1 h2 h3 HR
  go_wp2_with fail
  refine (R0.out.u16 a Ha.out).mono ?_
  rintro e w1 ⟨rfl, hq⟩
  have R1 := Lib.hid hq
  clear hq R0
  go_wp2_with fail
  refine (must16_ok _ _).mono ?_
  rintro e wz ⟨rfl, rfl⟩
  go_wp2_with fail
  refine (R1.out.u16 b Hb.out).mono ?_
  rintro e w2 ⟨rfl, hq⟩
  have R2 := Lib.hid hq
  clear hq R1
  go_wp2_with fail
  refine (must16_ok _ _).mono ?_
  rintro e wz ⟨rfl, rfl⟩
  go_wp2_with fail
  refine (R2.out.u16 n Hn.out).mono ?_
  rintro e w3 ⟨rfl, hq⟩
  have R3 := Lib.hid hq
  clear hq R2
  go_wp2_with fail
  refine (must16_ok _ _).mono ?_
  rintro e wz ⟨rfl, rfl⟩
  go_wp2_with fail
  refine (R3.out.u16_short HS.out).mono ?_
  rintro e wx ⟨bb, rfl, hc, hb⟩
  have HQ := Lib.hid (below_to HB.out (below_to R3.out.old hb R3.out.old.size) HB.out.size)
  have HC := Lib.hid hc
  clear hb hc R3 HX HB
  go_wp2_with fail
  refine (must16_bad _ _ _ _).mono ?_
  rintro e wz ⟨rfl, rfl⟩
  go_wp2_with fail
  exact ⟨rfl, _, _, rfl, HC.out, HQ.out⟩
theorem uparse_short (l : List UInt8) (hs : l.length < 8) (v : Value) (s t : Nat) (w : World) (hr : Rd w v l) :
    Calls Tryd.prog 18 #[v, .int .u32 (s : Int), .int .u32 (t : Int)] w (PErr 2 [octetsWord] w) := by
  by_cases h1 : l.length < 2
  · exact uparse_short0 l h1 v s t w hr
  · obtain ⟨a, l1, ha, rfl⟩ := be2_split l (by omega)
    by_cases h2 : l1.length < 2
    · exact uparse_short1 a ha l1 h2 v s t w hr
    · obtain ⟨b, l2, hb, rfl⟩ := be2_split l1 (by omega)
      by_cases h3 : l2.length < 2
      · exact uparse_short2 a ha b hb l2 h3 v s t w hr
      · obtain ⟨n, l3, hn, rfl⟩ := be2_split l2 (by omega)
        refine uparse_short3 a ha b hb n hn l3 ?_ v s t w hr
        simp [be2_len] at hs
        omega
theorem hd8_split (l : List UInt8) (h : 8 ≤ l.length) : ∃ a b n c r, a < 65536 ∧ b < 65536 ∧ n < 65536 ∧ c < 65536 ∧ l = hd8 a b n c ++ r := by
  obtain ⟨a, l1, ha, rfl⟩ := be2_split l (by omega)
  simp only [List.length_append, be2_len] at h
  obtain ⟨b, l2, hb, rfl⟩ := be2_split l1 (by omega)
  simp only [List.length_append, be2_len] at h
  obtain ⟨n, l3, hn, rfl⟩ := be2_split l2 (by omega)
  simp only [List.length_append, be2_len] at h
  obtain ⟨c, l4, hc, rfl⟩ := be2_split l3 (by omega)
  exact ⟨a, b, n, c, l4, ha, hb, hn, hc, by simp [hd8]⟩
set_option maxRecDepth 100000 in
set_option maxHeartbeats 8000000 in
theorem uparse_form (a : Nat) (ha : a < 65536) (b : Nat) (hb : b < 65536) (n : Nat) (hn : n < 65536) (c : Nat) (hc : c < 65536) (r : List UInt8) (s t : Nat) (hz : n < 8) (A : Option Addr) (cap : Nat) (w : World) (hr : Rd w (.slice A (8 + r.length) cap) (hd8 a b n c ++ r)) (hL : (hd8 a b n c ++ r).length ≤ 1099511627776) :
    Calls Tryd.prog 18 #[.slice A (8 + r.length) cap, .int .u32 (s : Int), .int .u32 (t : Int)] w (PErr 3 [] w) := by
  have hlr : 8 + r.length ≤ 1099511627776 := by simp only [List.length_append, hd8_len] at hL; exact hL
  have e0 : hd8 a b n c ++ r = (be2 a ++ (be2 b ++ (be2 n ++ (be2 c ++ r)))) := by simp [hd8]
  have HRR := Lib.hid hr
  rw [e0] at hr hL
  have HB := Lib.hid (below_al (Below.refl w.heap.size w) noDgObj)
  have HX : Hid (DgAt (w.alloc noDgObj) w.heap.size noDg (.slice none 0 0)) := by have h := DgAt.new w noDg (.slice none 0 0); rwa [noDg_obj] at h
  have HR := Lib.hid (Read_facts (.slice A (8 + r.length) cap) (be2 a ++ (be2 b ++ (be2 n ++ (be2 c ++ r)))) (w.alloc noDgObj) (hr.below (below_al (Below.refl _ _) _)) hL)
  have HL0 : Hid ((be2 a ++ (be2 b ++ (be2 n ++ (be2 c ++ r)))).length ≤ 1099511627776) := hL
  have Ha : Hid (a < 65536) := ha
  have Hb : Hid (b < 65536) := hb
  have Hn : Hid (n < 65536) := hn
  have Hc : Hid (c < 65536) := hc
  obtain ⟨Z, hZ⟩ : ∃ Z : Int, (n : Int) = Z := ⟨_, rfl⟩
  obtain ⟨M, hM⟩ : ∃ M : Int, ((8 + r.length : Nat) : Int) = M := ⟨_, rfl⟩
  have HNZ : Hid ((n : Int) = Z) := hZ
  have HMM : Hid (((8 + r.length : Nat) : Int) = M) := hM
  have hwn : IntKind.i64.wrap Z = Z := by rw [IntKind.wrap_i64]; omega
  have g1 : Z < 8 := by omega
  have g2 : decide (8 ≤ Z) = false := decide_eq_false (by omega)
  clear hr hL e0 ha hb hn hc hlr hz
  generalize hW : w.alloc noDgObj = W at HX HB HR
  unfold noDgObj at hW
  go_enter Tryd.func18, Tryd.ntmps18
  go_upto_region 1 with fail
  clear hW
  go_wp2_with fail
  refine HR.out.mono ?_
  rintro e w0 ⟨q, rfl, h1, h2, h3⟩
  have R0 : Hid (Rs W w0 q (be2 a ++ (be2 b ++ (be2 n ++ (be2 c ++ r))))) := ⟨h2, h3, h1, HL0.out⟩
  clear h1 h2 h3 HR
  go_wp2_with fail
  refine (R0.out.u16 a Ha.out).mono ?_
  rintro e w1 ⟨rfl, hq⟩
  have R1 := Lib.hid hq
  clear hq R0
  go_wp2_with fail
  refine (must16_ok _ _).mono ?_
  rintro e wz ⟨rfl, rfl⟩
  go_wp2_with fail
  refine (R1.out.u16 b Hb.out).mono ?_
  rintro e w2 ⟨rfl, hq⟩
  have R2 := Lib.hid hq
  clear hq R1
  go_wp2_with fail
  refine (must16_ok _ _).mono ?_
  rintro e wz ⟨rfl, rfl⟩
  go_wp2_with fail
  refine (R2.out.u16 n Hn.out).mono ?_
  rintro e w3 ⟨rfl, hq⟩
  have R3 := Lib.hid hq
  clear hq R2
  go_wp2_with fail
  refine (must16_ok _ _).mono ?_
  rintro e wz ⟨rfl, rfl⟩
  go_wp2_with fail
  refine (R3.out.u16 c Hc.out).mono ?_
  rintro e w4 ⟨rfl, hq⟩
  have R4 := Lib.hid hq
  clear hq R3
  go_wp2_with fail
  refine (must16_ok _ _).mono ?_
  rintro e wz ⟨rfl, rfl⟩
  go_wp2_with fail
  refine (mustBe_bad _ _).mono ?_
  rintro e wz ⟨rfl, rfl⟩
  have HQ := Lib.hid (below_to HB.out R4.out.old HB.out.size)
  clear HB R4 HX
  go_wp2_with fail
  exact ⟨rfl, _, _, rfl, chain_errno _ _, HQ.out⟩
set_option maxRecDepth 100000 in
set_option maxHeartbeats 8000000 in
theorem uparse_less (a : Nat) (ha : a < 65536) (b : Nat) (hb : b < 65536) (n : Nat) (hn : n < 65536) (c : Nat) (hc : c < 65536) (r : List UInt8) (s t : Nat) (hz : 8 ≤ n) (hz2 : 8 + r.length < n) (A : Option Addr) (cap : Nat) (w : World) (hr : Rd w (.slice A (8 + r.length) cap) (hd8 a b n c ++ r)) (hL : (hd8 a b n c ++ r).length ≤ 1099511627776) :
    Calls Tryd.prog 18 #[.slice A (8 + r.length) cap, .int .u32 (s : Int), .int .u32 (t : Int)] w (PErr 2 [] w) := by
  have hlr : 8 + r.length ≤ 1099511627776 := by simp only [List.length_append, hd8_len] at hL; exact hL
  have e0 : hd8 a b n c ++ r = (be2 a ++ (be2 b ++ (be2 n ++ (be2 c ++ r)))) := by simp [hd8]
  have HRR := Lib.hid hr
  rw [e0] at hr hL
  have HB := Lib.hid (below_al (Below.refl w.heap.size w) noDgObj)
  have HX : Hid (DgAt (w.alloc noDgObj) w.heap.size noDg (.slice none 0 0)) := by have h := DgAt.new w noDg (.slice none 0 0); rwa [noDg_obj] at h
  have HR := Lib.hid (Read_facts (.slice A (8 + r.length) cap) (be2 a ++ (be2 b ++ (be2 n ++ (be2 c ++ r)))) (w.alloc noDgObj) (hr.below (below_al (Below.refl _ _) _)) hL)
  have HL0 : Hid ((be2 a ++ (be2 b ++ (be2 n ++ (be2 c ++ r)))).length ≤ 1099511627776) := hL
  have Ha : Hid (a < 65536) := ha
  have Hb : Hid (b < 65536) := hb
  have Hn : Hid (n < 65536) := hn
  have Hc : Hid (c < 65536) := hc
  obtain ⟨Z, hZ⟩ : ∃ Z : Int, (n : Int) = Z := ⟨_, rfl⟩
  obtain ⟨M, hM⟩ : ∃ M : Int, ((8 + r.length : Nat) : Int) = M := ⟨_, rfl⟩
  have HNZ : Hid ((n : Int) = Z) := hZ
  have HMM : Hid (((8 + r.length : Nat) : Int) = M) := hM
  have hwn : IntKind.i64.wrap Z = Z := by rw [IntKind.wrap_i64]; omega
  have g1 : 8 ≤ Z := by omega
  have g2 : decide (8 ≤ Z) = true := decide_eq_true (by omega)
  have g3 : M < Z := by omega
  have g4 : decide (Z ≤ M) = false := decide_eq_false (by omega)
  generalize 8 + r.length = m at *
  clear hr hL e0 ha hb hn hc hlr hz hz2
  generalize hW : w.alloc noDgObj = W at HX HB HR
  unfold noDgObj at hW
  go_enter Tryd.func18, Tryd.ntmps18
  go_upto_region 1 with fail
  clear hW
  go_wp2_with fail
  refine HR.out.mono ?_
  rintro e w0 ⟨q, rfl, h1, h2, h3⟩
  have R0 : Hid (Rs W w0 q (be2 a ++ (be2 b ++ (be2 n ++ (be2 c ++ r))))) := ⟨h2, h3, h1, HL0.out⟩
  clear h1 h2 h3 HR
  go_wp2_with fail
  refine (R0.out.u16 a Ha.out).mono ?_
  rintro e w1 ⟨rfl, hq⟩
  have R1 := Lib.hid hq
  clear hq R0
  go_wp2_with fail
  refine (must16_ok _ _).mono ?_
  rintro e wz ⟨rfl, rfl⟩
  go_wp2_with fail
  refine (R1.out.u16 b Hb.out).mono ?_
  rintro e w2 ⟨rfl, hq⟩
  have R2 := Lib.hid hq
  clear hq R1
  go_wp2_with fail
  refine (must16_ok _ _).mono ?_
  rintro e wz ⟨rfl, rfl⟩
  go_wp2_with fail
  refine (R2.out.u16 n Hn.out).mono ?_
  rintro e w3 ⟨rfl, hq⟩
  have R3 := Lib.hid hq
  clear hq R2
  go_wp2_with fail
  refine (must16_ok _ _).mono ?_
  rintro e wz ⟨rfl, rfl⟩
  go_wp2_with fail
  refine (R3.out.u16 c Hc.out).mono ?_
  rintro e w4 ⟨rfl, hq⟩
  have R4 := Lib.hid hq
  clear hq R3
  go_wp2_with fail
  refine (must16_ok _ _).mono ?_
  rintro e wz ⟨rfl, rfl⟩
  go_wp2_with fail
  refine (mustBe_ok _ _).mono ?_
  rintro e wz ⟨rfl, rfl⟩
  clear g1 g2
  go_wp2_with fail
  refine (mustBe_bad _ _).mono ?_
  rintro e wz ⟨rfl, rfl⟩
  have HQ := Lib.hid (below_to HB.out R4.out.old HB.out.size)
  clear HB R4 HX
  go_wp2_with fail
  exact ⟨rfl, _, _, rfl, chain_errno _ _, HQ.out⟩
end Go.Proofs.YtikcnlcpbifobaaDoor
