/-
  What is proved: the document's Right of layer 5 (underpassref05) by contract.
  Conditions: fewer than 2^40 bytes.
  What is proved: the document's Split of layer 10 by contract: the same parts, over texts, in a row of their own.
  Conditions: at most 2000 bytes; the numbers fit their types.
  What is proved: the rows that Split and the document's Split told, beside bytes that are written over.
  Conditions: none of its own.
  What is proved: FragSplits by contract, out of those of frag.Split and of the document's Split: the law returns true, and older memory is as it was.
  Conditions: those of the arguments; 'shown' by contract, handed in.
  What is proved: the row and the tied card of FragSplits out of its function's contract.
  Conditions: the contract, handed in; the listed package-level variables start as the program's text lays them (the card ties them).
  What is proved: FragSplits: for any packet and any MTU the parts are those that the document says; the law returns true and leaves its arguments as they were (the tied card).
  Conditions: the listed package-level variables start as the program's text lays them (the card ties them).
-/
import Derived.Test.YtdmogppkambgaaaDoorVSame
import Derived.Test.YtdmogppkambgaaaDoorVRight
import Derived.Test.YtdmogppkambgaaaDoorMFs
import Derived.Deep.DeepCutAuto
import Derived.Deep.CutBlock
import Derived.Deep.RegionHeldLaw
import Derived.Test.YtdmogppkambgaaaDoorVLift
import Derived.Test.YtdmogppkambgaaaDoorCards
import Derived.Test.YtdmogppkambgaaaDoorTie
import Derived.SevenTiedAt
namespace Go.Proofs.YtdmogppkambgaaaDoor
open Go.RowKit

theorem empty_list : (⟨#[]⟩ : ByteArray).toList = [] := vtxt_list []
def ipTxt (n : Nat) : ByteArray := if n = 0 then ⟨#[]⟩ else if n = 1 then ⟨#[105, 112, 118, 52, 58, 32, 101, 114, 114, 111, 114, 32, 49]⟩ else ⟨#[105, 112, 118, 52, 58, 32, 101, 114, 114, 111, 114, 32, 55]⟩
set_option maxRecDepth 100000 in
set_option maxHeartbeats 1000000 in
theorem refRight_a (p : Ip) (_hL : p.b.length ≤ 1099511627776) (h0 : p.off < 0) (w : World) :
    Calls Tryd.prog 41 #[.agg #[.int .u32 p.tos, .int .u32 p.id, .bool p.df, .bool p.mf, .int .i64 p.off, .int .u32 p.ttl, .int .u32 p.proto, .int .u32 p.src, .int .u32 p.dst, .string (txt p.b)]] w fun e w' => e = .returned (.string (ipTxt 1)) ∧ Below w.heap.size w w' := by
  have HB := Lib.hid (below_al (Below.refl w.heap.size w) (.cells #[.int .u32 p.tos, .int .u32 p.id, .bool p.df, .bool p.mf, .int .i64 p.off, .int .u32 p.ttl, .int .u32 p.proto, .int .u32 p.src, .int .u32 p.dst, .string (txt p.b)] 45))
  have hz := txt_size p.b
  unfold ipTxt
  clear _hL
  generalize hL' : p.b.length = L at *
  generalize htb : txt p.b = tb at *
  generalize hoff : p.off = o at *
  clear hL' htb hoff
  go_enter Tryd.func41, Tryd.ntmps41
  go_wp2_with fail
  go_ret
  exact ⟨rfl, HB.out⟩
set_option maxRecDepth 100000 in
set_option maxHeartbeats 1000000 in
theorem refRight_b (p : Ip) (_hL : p.b.length ≤ 1099511627776) (h0 : 0 ≤ p.off) (h1 : p.off % 8 ≠ 0) (w : World) :
    Calls Tryd.prog 41 #[.agg #[.int .u32 p.tos, .int .u32 p.id, .bool p.df, .bool p.mf, .int .i64 p.off, .int .u32 p.ttl, .int .u32 p.proto, .int .u32 p.src, .int .u32 p.dst, .string (txt p.b)]] w fun e w' => e = .returned (.string (ipTxt 1)) ∧ Below w.heap.size w w' := by
  have HB := Lib.hid (below_al (Below.refl w.heap.size w) (.cells #[.int .u32 p.tos, .int .u32 p.id, .bool p.df, .bool p.mf, .int .i64 p.off, .int .u32 p.ttl, .int .u32 p.proto, .int .u32 p.src, .int .u32 p.dst, .string (txt p.b)] 45))
  have hz := txt_size p.b
  obtain ⟨r, hr⟩ : ∃ r : Int, p.off % 8 = r := ⟨_, rfl⟩
  have r1 : p.off.tmod 8 = r := by rw [tmod8 _ h0]; exact hr
  have n0 : decide (p.off < 0) = false := decide_eq_false (by omega)
  have rz1 : (r == 0) = false := by simp; omega
  have rz2 : decide (r = 0) = false := decide_eq_false (by omega)
  have rz3 : (r != 0) = true := by simp; omega
  unfold ipTxt
  clear _hL
  generalize hL' : p.b.length = L at *
  generalize htb : txt p.b = tb at *
  generalize hoff : p.off = o at *
  clear hL' htb hoff
  go_enter Tryd.func41, Tryd.ntmps41
  go_wp2_with fail
  go_ret
  exact ⟨rfl, HB.out⟩
set_option maxRecDepth 100000 in
set_option maxHeartbeats 1000000 in
theorem refRight_c (p : Ip) (_hL : p.b.length ≤ 1099511627776) (h0 : 0 ≤ p.off) (h1 : p.off % 8 = 0) (h3 : p.mf = true) (h4 : p.b = []) (w : World) :
    Calls Tryd.prog 41 #[.agg #[.int .u32 p.tos, .int .u32 p.id, .bool p.df, .bool p.mf, .int .i64 p.off, .int .u32 p.ttl, .int .u32 p.proto, .int .u32 p.src, .int .u32 p.dst, .string (txt p.b)]] w fun e w' => e = .returned (.string (ipTxt 1)) ∧ Below w.heap.size w w' := by
  have HB := Lib.hid (below_al (Below.refl w.heap.size w) (.cells #[.int .u32 p.tos, .int .u32 p.id, .bool p.df, .bool p.mf, .int .i64 p.off, .int .u32 p.ttl, .int .u32 p.proto, .int .u32 p.src, .int .u32 p.dst, .string (txt p.b)] 45))
  have hz := txt_size p.b
  rw [h3] at HB ⊢
  obtain ⟨r, hr⟩ : ∃ r : Int, p.off % 8 = r := ⟨_, rfl⟩
  have r1 : p.off.tmod 8 = r := by rw [tmod8 _ h0]; exact hr
  have n0 : decide (p.off < 0) = false := decide_eq_false (by omega)
  have z1 : r = 0 := by omega
  subst z1
  have e0 : ((txt p.b).toList == (⟨#[]⟩ : ByteArray).toList) = true := by rw [vtxt_list, empty_list, h4]; rfl
  have e1 : ((txt p.b).toList == []) = true := by rw [← empty_list]; exact e0
  unfold ipTxt
  clear _hL
  generalize hL' : p.b.length = L at *
  generalize htb : txt p.b = tb at *
  generalize hoff : p.off = o at *
  clear hL' htb hoff
  go_enter Tryd.func41, Tryd.ntmps41
  go_wp2_with fail
  go_ret
  exact ⟨rfl, HB.out⟩
set_option maxRecDepth 100000 in
set_option maxHeartbeats 1000000 in
theorem refRight_d (p : Ip) (_hL : p.b.length ≤ 1099511627776) (h0 : 0 ≤ p.off) (h1 : p.off % 8 = 0) (h3 : p.mf = true) (h4 : 0 < p.b.length) (h5 : p.b.length % 8 ≠ 0) (w : World) :
    Calls Tryd.prog 41 #[.agg #[.int .u32 p.tos, .int .u32 p.id, .bool p.df, .bool p.mf, .int .i64 p.off, .int .u32 p.ttl, .int .u32 p.proto, .int .u32 p.src, .int .u32 p.dst, .string (txt p.b)]] w fun e w' => e = .returned (.string (ipTxt 1)) ∧ Below w.heap.size w w' := by
  have HB := Lib.hid (below_al (Below.refl w.heap.size w) (.cells #[.int .u32 p.tos, .int .u32 p.id, .bool p.df, .bool p.mf, .int .i64 p.off, .int .u32 p.ttl, .int .u32 p.proto, .int .u32 p.src, .int .u32 p.dst, .string (txt p.b)] 45))
  have hz := txt_size p.b
  rw [h3] at HB ⊢
  obtain ⟨r, hr⟩ : ∃ r : Int, p.off % 8 = r := ⟨_, rfl⟩
  have r1 : p.off.tmod 8 = r := by rw [tmod8 _ h0]; exact hr
  have n0 : decide (p.off < 0) = false := decide_eq_false (by omega)
  have z1 : r = 0 := by omega
  subst z1
  obtain ⟨s, hs⟩ : ∃ s : Int, (p.b.length : Int) % 8 = s := ⟨_, rfl⟩
  have s1 : (p.b.length : Int).tmod 8 = s := by rw [tmod8 _ (by omega)]; exact hs
  have e0 : ((txt p.b).toList == (⟨#[]⟩ : ByteArray).toList) = false := by
    rw [vtxt_list, empty_list]
    cases hb : p.b with
    | nil => rw [hb] at h4; simp at h4
    | cons x l => rfl
  have e1 : ((txt p.b).toList == []) = false := by rw [← empty_list]; exact e0
  have sz1 : (s == 0) = false := by simp; omega
  have sz2 : decide (s = 0) = false := decide_eq_false (by omega)
  have sz3 : (s != 0) = true := by simp; omega
  unfold ipTxt
  clear _hL
  generalize hL' : p.b.length = L at *
  generalize htb : txt p.b = tb at *
  generalize hoff : p.off = o at *
  clear hL' htb hoff
  go_enter Tryd.func41, Tryd.ntmps41
  go_wp2_with fail
  go_ret
  exact ⟨rfl, HB.out⟩
set_option maxRecDepth 100000 in
set_option maxHeartbeats 1000000 in
theorem refRight_ef (p : Ip) (_hL : p.b.length ≤ 1099511627776) (h0 : 0 ≤ p.off) (h1 : p.off % 8 = 0) (h3 : p.mf = false) (h6 : 65535 < p.off) (w : World) :
    Calls Tryd.prog 41 #[.agg #[.int .u32 p.tos, .int .u32 p.id, .bool p.df, .bool p.mf, .int .i64 p.off, .int .u32 p.ttl, .int .u32 p.proto, .int .u32 p.src, .int .u32 p.dst, .string (txt p.b)]] w fun e w' => e = .returned (.string (ipTxt 7)) ∧ Below w.heap.size w w' := by
  have HB := Lib.hid (below_al (Below.refl w.heap.size w) (.cells #[.int .u32 p.tos, .int .u32 p.id, .bool p.df, .bool p.mf, .int .i64 p.off, .int .u32 p.ttl, .int .u32 p.proto, .int .u32 p.src, .int .u32 p.dst, .string (txt p.b)] 45))
  have hz := txt_size p.b
  rw [h3] at HB ⊢
  obtain ⟨r, hr⟩ : ∃ r : Int, p.off % 8 = r := ⟨_, rfl⟩
  have r1 : p.off.tmod 8 = r := by rw [tmod8 _ h0]; exact hr
  have n0 : decide (p.off < 0) = false := decide_eq_false (by omega)
  have z1 : r = 0 := by omega
  subst z1
  unfold ipTxt
  clear _hL
  generalize hL' : p.b.length = L at *
  generalize htb : txt p.b = tb at *
  generalize hoff : p.off = o at *
  clear hL' htb hoff
  go_enter Tryd.func41, Tryd.ntmps41
  go_wp2_with fail
  go_ret
  exact ⟨rfl, HB.out⟩
set_option maxRecDepth 100000 in
set_option maxHeartbeats 1000000 in
theorem refRight_ff (p : Ip) (_hL : p.b.length ≤ 1099511627776) (h0 : 0 ≤ p.off) (h1 : p.off % 8 = 0) (h3 : p.mf = false) (h6 : p.off ≤ 65535) (h7 : 65535 < 20 + p.off + (p.b.length : Int)) (w : World) :
    Calls Tryd.prog 41 #[.agg #[.int .u32 p.tos, .int .u32 p.id, .bool p.df, .bool p.mf, .int .i64 p.off, .int .u32 p.ttl, .int .u32 p.proto, .int .u32 p.src, .int .u32 p.dst, .string (txt p.b)]] w fun e w' => e = .returned (.string (ipTxt 7)) ∧ Below w.heap.size w w' := by
  have HB := Lib.hid (below_al (Below.refl w.heap.size w) (.cells #[.int .u32 p.tos, .int .u32 p.id, .bool p.df, .bool p.mf, .int .i64 p.off, .int .u32 p.ttl, .int .u32 p.proto, .int .u32 p.src, .int .u32 p.dst, .string (txt p.b)] 45))
  have hz := txt_size p.b
  rw [h3] at HB ⊢
  obtain ⟨r, hr⟩ : ∃ r : Int, p.off % 8 = r := ⟨_, rfl⟩
  have r1 : p.off.tmod 8 = r := by rw [tmod8 _ h0]; exact hr
  have n0 : decide (p.off < 0) = false := decide_eq_false (by omega)
  have z1 : r = 0 := by omega
  subst z1
  have o1 : decide (65535 < p.off) = false := decide_eq_false (by omega)
  obtain ⟨t, ht⟩ : ∃ t : Int, 20 + p.off + (p.b.length : Int) = t := ⟨_, rfl⟩
  have t0 : 65535 < t := by omega
  have t2 : t ≤ 1099511800000 := by omega
  unfold ipTxt
  clear _hL
  generalize hL' : p.b.length = L at *
  generalize htb : txt p.b = tb at *
  generalize hoff : p.off = o at *
  clear hL' htb hoff
  go_enter Tryd.func41, Tryd.ntmps41
  go_wp2_with fail
  go_ret
  exact ⟨rfl, HB.out⟩
set_option maxRecDepth 100000 in
set_option maxHeartbeats 1000000 in
theorem refRight_gf (p : Ip) (_hL : p.b.length ≤ 1099511627776) (h0 : 0 ≤ p.off) (h1 : p.off % 8 = 0) (h3 : p.mf = false) (h6 : p.off ≤ 65535) (h7 : 20 + p.off + (p.b.length : Int) ≤ 65535) (w : World) :
    Calls Tryd.prog 41 #[.agg #[.int .u32 p.tos, .int .u32 p.id, .bool p.df, .bool p.mf, .int .i64 p.off, .int .u32 p.ttl, .int .u32 p.proto, .int .u32 p.src, .int .u32 p.dst, .string (txt p.b)]] w fun e w' => e = .returned (.string (ipTxt 0)) ∧ Below w.heap.size w w' := by
  have HB := Lib.hid (below_al (Below.refl w.heap.size w) (.cells #[.int .u32 p.tos, .int .u32 p.id, .bool p.df, .bool p.mf, .int .i64 p.off, .int .u32 p.ttl, .int .u32 p.proto, .int .u32 p.src, .int .u32 p.dst, .string (txt p.b)] 45))
  have hz := txt_size p.b
  rw [h3] at HB ⊢
  obtain ⟨r, hr⟩ : ∃ r : Int, p.off % 8 = r := ⟨_, rfl⟩
  have r1 : p.off.tmod 8 = r := by rw [tmod8 _ h0]; exact hr
  have n0 : decide (p.off < 0) = false := decide_eq_false (by omega)
  have z1 : r = 0 := by omega
  subst z1
  have o1 : decide (65535 < p.off) = false := decide_eq_false (by omega)
  obtain ⟨t, ht⟩ : ∃ t : Int, 20 + p.off + (p.b.length : Int) = t := ⟨_, rfl⟩
  have t0 : decide (65535 < t) = false := decide_eq_false (by omega)
  have t1 : 0 ≤ t := by omega
  have t2 : t ≤ 65535 := by omega
  unfold ipTxt
  clear _hL
  generalize hL' : p.b.length = L at *
  generalize htb : txt p.b = tb at *
  generalize hoff : p.off = o at *
  clear hL' htb hoff
  go_enter Tryd.func41, Tryd.ntmps41
  go_wp2_with fail
  go_ret
  exact ⟨rfl, HB.out⟩
set_option maxRecDepth 100000 in
set_option maxHeartbeats 1000000 in
theorem refRight_et (p : Ip) (_hL : p.b.length ≤ 1099511627776) (h0 : 0 ≤ p.off) (h1 : p.off % 8 = 0) (h3 : p.mf = true) (h4 : 0 < p.b.length) (h5 : p.b.length % 8 = 0) (h6 : 65535 < p.off) (w : World) :
    Calls Tryd.prog 41 #[.agg #[.int .u32 p.tos, .int .u32 p.id, .bool p.df, .bool p.mf, .int .i64 p.off, .int .u32 p.ttl, .int .u32 p.proto, .int .u32 p.src, .int .u32 p.dst, .string (txt p.b)]] w fun e w' => e = .returned (.string (ipTxt 7)) ∧ Below w.heap.size w w' := by
  have HB := Lib.hid (below_al (Below.refl w.heap.size w) (.cells #[.int .u32 p.tos, .int .u32 p.id, .bool p.df, .bool p.mf, .int .i64 p.off, .int .u32 p.ttl, .int .u32 p.proto, .int .u32 p.src, .int .u32 p.dst, .string (txt p.b)] 45))
  have hz := txt_size p.b
  rw [h3] at HB ⊢
  obtain ⟨r, hr⟩ : ∃ r : Int, p.off % 8 = r := ⟨_, rfl⟩
  have r1 : p.off.tmod 8 = r := by rw [tmod8 _ h0]; exact hr
  have n0 : decide (p.off < 0) = false := decide_eq_false (by omega)
  have z1 : r = 0 := by omega
  subst z1
  obtain ⟨s, hs⟩ : ∃ s : Int, (p.b.length : Int) % 8 = s := ⟨_, rfl⟩
  have s1 : (p.b.length : Int).tmod 8 = s := by rw [tmod8 _ (by omega)]; exact hs
  have z2 : s = 0 := by omega
  subst z2
  have e0 : ((txt p.b).toList == (⟨#[]⟩ : ByteArray).toList) = false := by
    rw [vtxt_list, empty_list]
    cases hb : p.b with
    | nil => rw [hb] at h4; simp at h4
    | cons x l => rfl
  have e1 : ((txt p.b).toList == []) = false := by rw [← empty_list]; exact e0
  unfold ipTxt
  clear _hL
  generalize hL' : p.b.length = L at *
  generalize htb : txt p.b = tb at *
  generalize hoff : p.off = o at *
  clear hL' htb hoff
  go_enter Tryd.func41, Tryd.ntmps41
  go_wp2_with fail
  go_ret
  exact ⟨rfl, HB.out⟩
set_option maxRecDepth 100000 in
set_option maxHeartbeats 1000000 in
theorem refRight_ft (p : Ip) (_hL : p.b.length ≤ 1099511627776) (h0 : 0 ≤ p.off) (h1 : p.off % 8 = 0) (h3 : p.mf = true) (h4 : 0 < p.b.length) (h5 : p.b.length % 8 = 0) (h6 : p.off ≤ 65535) (h7 : 65535 < 20 + p.off + (p.b.length : Int)) (w : World) :
    Calls Tryd.prog 41 #[.agg #[.int .u32 p.tos, .int .u32 p.id, .bool p.df, .bool p.mf, .int .i64 p.off, .int .u32 p.ttl, .int .u32 p.proto, .int .u32 p.src, .int .u32 p.dst, .string (txt p.b)]] w fun e w' => e = .returned (.string (ipTxt 7)) ∧ Below w.heap.size w w' := by
  have HB := Lib.hid (below_al (Below.refl w.heap.size w) (.cells #[.int .u32 p.tos, .int .u32 p.id, .bool p.df, .bool p.mf, .int .i64 p.off, .int .u32 p.ttl, .int .u32 p.proto, .int .u32 p.src, .int .u32 p.dst, .string (txt p.b)] 45))
  have hz := txt_size p.b
  rw [h3] at HB ⊢
  obtain ⟨r, hr⟩ : ∃ r : Int, p.off % 8 = r := ⟨_, rfl⟩
  have r1 : p.off.tmod 8 = r := by rw [tmod8 _ h0]; exact hr
  have n0 : decide (p.off < 0) = false := decide_eq_false (by omega)
  have z1 : r = 0 := by omega
  subst z1
  obtain ⟨s, hs⟩ : ∃ s : Int, (p.b.length : Int) % 8 = s := ⟨_, rfl⟩
  have s1 : (p.b.length : Int).tmod 8 = s := by rw [tmod8 _ (by omega)]; exact hs
  have z2 : s = 0 := by omega
  subst z2
  have e0 : ((txt p.b).toList == (⟨#[]⟩ : ByteArray).toList) = false := by
    rw [vtxt_list, empty_list]
    cases hb : p.b with
    | nil => rw [hb] at h4; simp at h4
    | cons x l => rfl
  have e1 : ((txt p.b).toList == []) = false := by rw [← empty_list]; exact e0
  have o1 : decide (65535 < p.off) = false := decide_eq_false (by omega)
  obtain ⟨t, ht⟩ : ∃ t : Int, 20 + p.off + (p.b.length : Int) = t := ⟨_, rfl⟩
  have t0 : 65535 < t := by omega
  have t2 : t ≤ 1099511800000 := by omega
  unfold ipTxt
  clear _hL
  generalize hL' : p.b.length = L at *
  generalize htb : txt p.b = tb at *
  generalize hoff : p.off = o at *
  clear hL' htb hoff
  go_enter Tryd.func41, Tryd.ntmps41
  go_wp2_with fail
  go_ret
  exact ⟨rfl, HB.out⟩
set_option maxRecDepth 100000 in
set_option maxHeartbeats 1000000 in
theorem refRight_gt (p : Ip) (_hL : p.b.length ≤ 1099511627776) (h0 : 0 ≤ p.off) (h1 : p.off % 8 = 0) (h3 : p.mf = true) (h4 : 0 < p.b.length) (h5 : p.b.length % 8 = 0) (h6 : p.off ≤ 65535) (h7 : 20 + p.off + (p.b.length : Int) ≤ 65535) (w : World) :
    Calls Tryd.prog 41 #[.agg #[.int .u32 p.tos, .int .u32 p.id, .bool p.df, .bool p.mf, .int .i64 p.off, .int .u32 p.ttl, .int .u32 p.proto, .int .u32 p.src, .int .u32 p.dst, .string (txt p.b)]] w fun e w' => e = .returned (.string (ipTxt 0)) ∧ Below w.heap.size w w' := by
  have HB := Lib.hid (below_al (Below.refl w.heap.size w) (.cells #[.int .u32 p.tos, .int .u32 p.id, .bool p.df, .bool p.mf, .int .i64 p.off, .int .u32 p.ttl, .int .u32 p.proto, .int .u32 p.src, .int .u32 p.dst, .string (txt p.b)] 45))
  have hz := txt_size p.b
  rw [h3] at HB ⊢
  obtain ⟨r, hr⟩ : ∃ r : Int, p.off % 8 = r := ⟨_, rfl⟩
  have r1 : p.off.tmod 8 = r := by rw [tmod8 _ h0]; exact hr
  have n0 : decide (p.off < 0) = false := decide_eq_false (by omega)
  have z1 : r = 0 := by omega
  subst z1
  obtain ⟨s, hs⟩ : ∃ s : Int, (p.b.length : Int) % 8 = s := ⟨_, rfl⟩
  have s1 : (p.b.length : Int).tmod 8 = s := by rw [tmod8 _ (by omega)]; exact hs
  have z2 : s = 0 := by omega
  subst z2
  have e0 : ((txt p.b).toList == (⟨#[]⟩ : ByteArray).toList) = false := by
    rw [vtxt_list, empty_list]
    cases hb : p.b with
    | nil => rw [hb] at h4; simp at h4
    | cons x l => rfl
  have e1 : ((txt p.b).toList == []) = false := by rw [← empty_list]; exact e0
  have o1 : decide (65535 < p.off) = false := decide_eq_false (by omega)
  obtain ⟨t, ht⟩ : ∃ t : Int, 20 + p.off + (p.b.length : Int) = t := ⟨_, rfl⟩
  have t0 : decide (65535 < t) = false := decide_eq_false (by omega)
  have t1 : 0 ≤ t := by omega
  have t2 : t ≤ 65535 := by omega
  unfold ipTxt
  clear _hL
  generalize hL' : p.b.length = L at *
  generalize htb : txt p.b = tb at *
  generalize hoff : p.off = o at *
  clear hL' htb hoff
  go_enter Tryd.func41, Tryd.ntmps41
  go_wp2_with fail
  go_ret
  exact ⟨rfl, HB.out⟩
theorem refRight_any (p : Ip) (hL : p.b.length ≤ 1099511627776) (w : World) :
    Calls Tryd.prog 41 #[.agg #[.int .u32 p.tos, .int .u32 p.id, .bool p.df, .bool p.mf, .int .i64 p.off, .int .u32 p.ttl, .int .u32 p.proto, .int .u32 p.src, .int .u32 p.dst, .string (txt p.b)]] w fun e w' => e = .returned (.string (ipTxt p.bad)) ∧ Below w.heap.size w w' := by
  by_cases h0 : p.off < 0
  · have hb : p.bad = 1 := by unfold Ip.bad Ip.arg; simp [h0]
    rw [hb]
    exact refRight_a p hL h0 w
  · have h0' : 0 ≤ p.off := by omega
    by_cases h1 : p.off % 8 = 0
    · have key : (p.mf = false ∨ (0 < p.b.length ∧ p.b.length % 8 = 0)) → p.bad = if 65515 - (p.b.length : Int) < p.off then 7 else 0 := fun h => bad_rest p h0' h1 (by
        rcases h with h | ⟨h2, h3⟩
        · exact .inl h
        · exact .inr (by simp [h2, h3]))
      have arg1 : (p.mf = true ∧ ¬ (0 < p.b.length ∧ p.b.length % 8 = 0)) → p.bad = 1 := fun ⟨h2, h3⟩ => by
        have : p.arg = true := by
          unfold Ip.arg
          rw [h2]
          have : (decide (0 < p.b.length) && decide (p.b.length % 8 = 0)) = false := by
            rw [← Bool.not_eq_true, Bool.and_eq_true, decide_eq_true_eq, decide_eq_true_eq]
            exact h3
          rw [this]
          simp
        unfold Ip.bad
        rw [if_pos this]
      by_cases hm : p.mf = false
      · rw [key (.inl hm)]
        by_cases h6 : 65535 < p.off
        · rw [if_pos (by omega)]
          exact refRight_ef p hL h0' h1 hm h6 w
        · by_cases h7 : 65535 < 20 + p.off + (p.b.length : Int)
          · rw [if_pos (by omega)]
            exact refRight_ff p hL h0' h1 hm (by omega) h7 w
          · rw [if_neg (by omega)]
            exact refRight_gf p hL h0' h1 hm (by omega) (by omega) w
      · have hm : p.mf = true := by simpa using hm
        by_cases h4 : p.b = []
        · rw [arg1 ⟨hm, by rw [h4]; simp⟩]
          exact refRight_c p hL h0' h1 hm h4 w
        · have h4' : 0 < p.b.length := List.length_pos_iff.2 h4
          by_cases h5 : p.b.length % 8 = 0
          · rw [key (.inr ⟨h4', h5⟩)]
            by_cases h6 : 65535 < p.off
            · rw [if_pos (by omega)]
              exact refRight_et p hL h0' h1 hm h4' h5 h6 w
            · by_cases h7 : 65535 < 20 + p.off + (p.b.length : Int)
              · rw [if_pos (by omega)]
                exact refRight_ft p hL h0' h1 hm h4' h5 (by omega) h7 w
              · rw [if_neg (by omega)]
                exact refRight_gt p hL h0' h1 hm h4' h5 (by omega) (by omega) w
          · rw [arg1 ⟨hm, fun h => h5 h.2⟩]
            exact refRight_d p hL h0' h1 hm h4' h5 w
    · have hb : p.bad = 1 := by unfold Ip.bad Ip.arg; simp [h1]
      rw [hb]
      exact refRight_b p hL h0' h1 w
end Go.Proofs.YtdmogppkambgaaaDoor
namespace Go.Proofs.YtdmogppkambgaaaDoor
open Go.RowKit

def refCells (p : Ip) : List Value := (refIpRow p).toList
theorem refCells_len (p : Ip) : (refCells p).length = 10 := rfl
theorem ref_info : (Tryd.prog.info? 45).map (fun i => (i.zero, i.size, i.bytes)) = some (some (.agg #[.int .u32 0, .int .u32 0, .bool false, .bool false, .int .i64 0, .int .u32 0, .int .u32 0, .int .u32 0, .int .u32 0, .string ⟨#[]⟩]), 10, 56) := by kernel_rfl
/-- A packet of the document's in a block. -/
def FsAt (W : World) (g : Nat) (p : Ip) : Prop := W.heap[g]? = some (.cells #[.int .u32 p.tos, .int .u32 p.id, .bool p.df, .bool p.mf, .int .i64 p.off, .int .u32 p.ttl, .int .u32 p.proto, .int .u32 p.src, .int .u32 p.dst, .string (txt p.b)] 45)
section
variable {W W' : World} {g : Nat} {p : Ip}
theorem FsAt.lt (h : FsAt W g p) : g < W.heap.size := (Array.getElem?_eq_some_iff.1 h).1
theorem FsAt.below (h : FsAt W g p) (hb : Below W.heap.size W W') : FsAt W' g p := (hb.block _ h.lt).trans h
theorem FsAt.free (h : FsAt W g p) (i : Nat) : W.frozen? ⟨g, i, none⟩ = false := by
  have h' : W.heap[g]? = some _ := h
  simp [World.frozen?, h']
theorem FsAt.cells (h : FsAt W g p) : W.cell? ⟨g, 0, none⟩ = some (.int .u32 p.tos) ∧ W.cell? ⟨g, 1, none⟩ = some (.int .u32 p.id) ∧ W.cell? ⟨g, 2, none⟩ = some (.bool p.df) ∧ W.cell? ⟨g, 3, none⟩ = some (.bool p.mf) ∧ W.cell? ⟨g, 4, none⟩ = some (.int .i64 p.off) ∧ W.cell? ⟨g, 5, none⟩ = some (.int .u32 p.ttl) ∧ W.cell? ⟨g, 6, none⟩ = some (.int .u32 p.proto) ∧ W.cell? ⟨g, 7, none⟩ = some (.int .u32 p.src) ∧ W.cell? ⟨g, 8, none⟩ = some (.int .u32 p.dst) ∧ W.cell? ⟨g, 9, none⟩ = some (.string (txt p.b)) := by
  have h' : W.heap[g]? = some _ := h
  refine ⟨?_, ?_, ?_, ?_, ?_, ?_, ?_, ?_, ?_, ?_⟩ <;> rw [cell_of_row _ _ _ _ _ _ h'] <;> rfl
theorem FsAt.new (w : World) (p : Ip) : FsAt (w.alloc (.cells #[.int .u32 p.tos, .int .u32 p.id, .bool p.df, .bool p.mf, .int .i64 p.off, .int .u32 p.ttl, .int .u32 p.proto, .int .u32 p.src, .int .u32 p.dst, .string (txt p.b)] 45)) w.heap.size p := heap_alloc_new w _
end
theorem refs_len (l : List Ip) : (l.flatMap refCells).length = l.length * 10 := by
  induction l with
  | nil => rfl
  | cons x l ih => rw [List.flatMap_cons, List.length_append, ih, refCells_len, List.length_cons]; omega
theorem refs_get : ∀ (l : List Ip) (k j : Nat) (x : Ip), l[k]? = some x → j < 10 → (l.flatMap refCells)[k * 10 + j]? = (refCells x)[j]?
  | [], k, j, x, h, _ => by simp at h
  | y :: l, 0, j, x, h, hj => by
    obtain rfl : y = x := by simpa using h
    rw [List.flatMap_cons, List.getElem?_append_left (by rw [refCells_len]; omega)]
    congr 1
    omega
  | y :: l, k + 1, j, x, h, hj => by
    rw [List.flatMap_cons, List.getElem?_append_right (by rw [refCells_len]; omega), refCells_len]
    have := refs_get l k j x (by simpa using h) hj
    rw [← this]
    congr 1
    omega
/-- The document's packets, in a row that was laid from w0 on. -/
structure Rf2 (w0 W : World) (sv : Value) (l : List Ip) : Prop where
  row : W.ownsRow w0.heap.size 45 10 sv l.length (l.flatMap refCells)
  base : Below w0.heap.size w0 W
section
variable {w0 W W' : World} {sv sv' : Value} {l : List Ip} {x : Ip}
theorem Rf2.nil (h : Below w0.heap.size w0 W) : Rf2 w0 W (.slice none 0 0) [] := ⟨World.ownsRow_nil _ _ _ _, h⟩
theorem Rf2.start (w : World) : Rf2 w (w.alloc (.cells #[] 45)) (.slice (some ⟨w.heap.size, 0, none⟩) 0 0) [] :=
  ⟨⟨rfl, .inr ⟨w.heap.size, 0, #[], rfl, Nat.le_refl _, heap_alloc_new w _, Nat.le_refl _, by decide, rfl, rfl⟩⟩, below_al (Below.refl _ _) _⟩
theorem Rf2.below (h : Rf2 w0 W sv l) (hb : Below W.heap.size W W') : Rf2 w0 W' sv l :=
  ⟨owns_at h.row (fun g hg => hb.block g (own_lt h.row hg)), below_to h.base hb h.base.size⟩
theorem Rf2.from {w : World} (h : Rf2 w0 W sv l) (hb : Below w.heap.size w w0) : Rf2 w W sv l := ⟨owns_base h.row hb.size, below_to hb h.base hb.size⟩
theorem refRow_one (x : Ip) : ∀ u ∈ refCells x, u.oneCell' = true := fun u hu => by
  have h1 := refIpRow_one x
  rw [Array.all_eq_true_iff_forall_mem] at h1
  exact h1 u (by simpa [refCells] using hu)
/-- One more. -/
theorem Rf2.push (h : Rf2 w0 W sv l) {X c : Nat} (hX : FsAt W X x) (hfew : l.length < 1000000) (ty : TypeId) :
    ∃ sv' W', (Builtin.append_ #[50, 50] ty #[sv, .slice (some ⟨X, 0, none⟩) 1 c]).run Tryd.prog W = .ok sv' W' ∧ Rf2 w0 W' sv' (l ++ [x]) := by
  obtain ⟨i0, hi, hz0, hz1, hz2⟩ := info_parts ref_info
  obtain ⟨v', w1, hrun, ho1, hg, _, hat⟩ := run_append_own_at (P := Tryd.prog) W w0.heap.size 50 ty 45 i0 _ 10 56 Tryd.underlying50 hi hz0 hz1 hz2 rfl (by omega) sv l.length _ h.row ⟨X, 0, none⟩ 1 c (refCells x) rfl
    (fun j u hu => by
      rw [Addr.add_lit]
      have hc := cell_of_row W X (0 + j) _ _ _ hX
      rw [hc, Nat.zero_add]
      rw [← Array.getElem?_toList]
      exact hu) (refRow_one x) (by simp only [maxLen]; omega) (by omega) h.base.size
  refine ⟨v', w1, hrun, ⟨?_, h.base.grown hg h.base.size (fun k hk => (h.row.lt k hk).1)⟩⟩
  rw [List.length_append, List.flatMap_append]
  simpa using ho1
theorem Rf2.one {w W : World} (hb : Below w.heap.size w W) (x : Ip) : Rf2 w (W.alloc (.cells #[.int .u32 x.tos, .int .u32 x.id, .bool x.df, .bool x.mf, .int .i64 x.off, .int .u32 x.ttl, .int .u32 x.proto, .int .u32 x.src, .int .u32 x.dst, .string (txt x.b)] 45)) (.slice (some ⟨W.heap.size, 0, none⟩) 1 1) [x] :=
  ⟨⟨rfl, .inr ⟨W.heap.size, 1, _, rfl, hb.size, heap_alloc_new W _, Nat.le_refl _, by decide, rfl, rfl⟩⟩, hb.alloc hb.size _⟩
end
/-- What is told of an error. -/
def wrongT (c : Nat) (b : Bool) : ByteArray := if c = 0 then ⟨#[]⟩ else text c (if b then [fragWord, ipWord] else [fragWord])
def RSplit (p : Ip) (mtu : Int) (w : World) (e : Ending) (w' : World) : Prop :=
  ∃ sv, e = .returned (.tuple #[sv, .string (wrongT (splitC p mtu) (splitIn p mtu))]) ∧ Rf2 w w' sv (if splitC p mtu = 0 then splitL p mtu else [])
theorem wrongT_bad {p : Ip} (h : p.bad ≠ 0) : (⟨#[102, 114, 97, 103, 58, 32]⟩ : ByteArray) ++ ipTxt p.bad = wrongT p.bad true := by
  have hb : p.bad = 1 ∨ p.bad = 7 := by
    unfold Ip.bad at h ⊢
    by_cases h1 : p.arg = true
    · rw [if_pos h1]; exact .inl rfl
    · rw [if_neg h1] at h ⊢
      by_cases h2 : 65515 - (p.b.length : Int) < p.off
      · rw [if_pos h2]; exact .inr rfl
      · rw [if_neg h2] at h; exact absurd rfl h
  rcases hb with e | e <;> rw [e] <;> rfl
theorem fs_some {p : Ip} (h : p.bad ≠ 0) : ((ipTxt p.bad).toList == []) = false := by
  have hb : p.bad = 1 ∨ p.bad = 7 := by
    unfold Ip.bad at h ⊢
    by_cases h1 : p.arg = true
    · rw [if_pos h1]; exact .inl rfl
    · rw [if_neg h1] at h ⊢
      by_cases h2 : 65515 - (p.b.length : Int) < p.off
      · rw [if_pos h2]; exact .inr rfl
      · rw [if_neg h2] at h; exact absurd rfl h
  rcases hb with e | e <;> rw [e]
  · show ((txt [105, 112, 118, 52, 58, 32, 101, 114, 114, 111, 114, 32, 49]).toList == _) = false
    rw [vtxt_list]; rfl
  · show ((txt [105, 112, 118, 52, 58, 32, 101, 114, 114, 111, 114, 32, 55]).toList == _) = false
    rw [vtxt_list]; rfl
theorem ipTxt_size (n : Nat) : (ipTxt n).size ≤ 13 := by
  unfold ipTxt
  split
  · decide
  · split <;> decide
theorem fs_mid (bs : List UInt8) (a b : Nat) : (txt bs).extract a b = txt ((bs.drop a).take (b - a)) := by
  apply ByteArray.ext
  rw [ByteArray.data_extract]
  simp [txt, List.extract_eq_take_drop]
set_option maxRecDepth 100000 in
set_option maxHeartbeats 4000000 in
theorem rsplit_any (p : Ip) (mtu : Int) (w : World) (hf : p.b.length ≤ 2000) (hm0 : -9223372036854775808 ≤ mtu) (hm1 : mtu ≤ 9223372036854775807) :
    Calls Tryd.prog 18 #[.agg #[.int .u32 p.tos, .int .u32 p.id, .bool p.df, .bool p.mf, .int .i64 p.off, .int .u32 p.ttl, .int .u32 p.proto, .int .u32 p.src, .int .u32 p.dst, .string (txt p.b)], .int .i64 mtu] w (RSplit p mtu w) := by
  have HB := Lib.hid (below_al (Below.refl _ w) (.cells #[.int .u32 p.tos, .int .u32 p.id, .bool p.df, .bool p.mf, .int .i64 p.off, .int .u32 p.ttl, .int .u32 p.proto, .int .u32 p.src, .int .u32 p.dst, .string (txt p.b)] 45))
  have HP := Lib.hid (FsAt.new w p)
  have X1 := Lib.hid (fun W => refRight_any p (by omega) W)
  have Hf := Lib.hid hf
  clear hf
  go_enter Tryd.func18, Tryd.ntmps18
  go_upto_region 1 with fail
  generalize w.alloc (.cells #[.int .u32 p.tos, .int .u32 p.id, .bool p.df, .bool p.mf, .int .i64 p.off, .int .u32 p.ttl, .int .u32 p.proto, .int .u32 p.src, .int .u32 p.dst, .string (txt p.b)] 45) = W1 at HB HP ⊢
  obtain ⟨B0, hB0⟩ : ∃ B0, w.heap.size = B0 := ⟨_, rfl⟩
  have HBe := Lib.hid hB0
  rw [hB0] at HP ⊢
  clear hB0
  by_cases h68 : mtu < 68
  · have q1 : decide (mtu < 68) = true := decide_eq_true h68
    have hC : splitC p mtu = 1 := by unfold splitC; rw [if_pos h68]
    have hI : splitIn p mtu = false := by unfold splitIn; rw [decide_eq_false (by omega)]; rfl
    have HC := Lib.hid (And.intro hC hI)
    clear hC hI X1
    go_wp2_with fail
    go_ret2
    refine ⟨.slice none 0 0, ?_, by rw [HC.out.1, if_neg (by decide)]; exact Rf2.nil HB.out⟩
    rw [HC.out.1, HC.out.2]
    rfl
  · have q1 : decide (mtu < 68) = false := decide_eq_false h68
    have H68 := Lib.hid h68
    obtain ⟨c0, c1, c2, c3, c4, c5, c6, c7, c8, c9⟩ := HP.out.cells
    go_upto_region 4 with (go_at_call 41; (with_reducible refine (X1.out _).mono ?_); rintro e w2 ⟨rfl, hb2⟩; (have HB2 := Lib.hid (below_to HB.out hb2 HB.out.size)); (have HP2 := Lib.hid (HP.out.below hb2)); clear hb2)
    clear c0 c1 c2 c3 c4 c5 c6 c7 c8 c9 X1 HP HB
    by_cases hbad : p.bad = 0
    · have HBb := Lib.hid hbad
      obtain ⟨L, hL⟩ : ∃ L, p.b.length = L := ⟨_, rfl⟩
      have HL := Lib.hid hL
      have hsz := txt_size p.b
      rw [hL] at hsz
      obtain ⟨T, hT⟩ : ∃ T : Int, 20 + (L : Int) = T := ⟨_, rfl⟩
      have q2 : IntKind.i64.wrap (20 + (L : Int)) = T := by rw [IntKind.wrap_i64]; have := Hf.out; omega
      have HT := Lib.hid hT
      have hi : ipTxt p.bad = ⟨#[]⟩ := by rw [hbad]; rfl
      rw [hi]
      obtain ⟨c0, c1, c2, c3, c4, c5, c6, c7, c8, c9⟩ := HP2.out.cells
      obtain ⟨TB, hTB⟩ : ∃ TB, txt p.b = TB := ⟨_, rfl⟩
      have HTB := Lib.hid hTB
      rw [hTB] at hsz c9
      clear hL hT hi hbad hTB
      by_cases hfit : T ≤ mtu
      · have q3 : decide (T ≤ mtu) = true := decide_eq_true hfit
        have hC : splitC p mtu = 0 := by unfold splitC; rw [if_neg (by have := H68.out; omega), if_neg (by have := HBb.out; omega), if_pos (by rw [HL.out, HT.out]; exact hfit)]
        have hS : splitL p mtu = [p] := by unfold splitL; rw [if_pos (by rw [HL.out, HT.out]; exact hfit)]
        have HC := Lib.hid (And.intro hC hS)
        clear hC hS hfit
        go_wp2_with fail
        go_ret2
        refine ⟨_, ?_, by rw [if_pos HC.out.1, HC.out.2]; have h1 := Rf2.one HB2.out p; rw [HTB.out] at h1; exact h1⟩
        rw [HC.out.1]
        rfl
      · have q3 : decide (T ≤ mtu) = false := decide_eq_false hfit
        obtain ⟨df, hdf⟩ : ∃ df, p.df = df := ⟨_, rfl⟩
        cases df with
        | true =>
          rw [hdf] at c2
          have hC : splitC p mtu = 7 := by unfold splitC; rw [if_neg (by have := H68.out; omega), if_neg (by have := HBb.out; omega), if_neg (by rw [HL.out, HT.out]; exact hfit), hdf]; rfl
          have hI : splitIn p mtu = false := by unfold splitIn; rw [HBb.out]; simp
          have HC := Lib.hid (And.intro hC hI)
          clear hC hI hfit hdf
          go_wp2_with fail
          go_ret2
          refine ⟨.slice none 0 0, ?_, by rw [HC.out.1, if_neg (by decide)]; exact Rf2.nil HB2.out⟩
          rw [HC.out.1, HC.out.2]
          rfl
        | false =>
          have hC : splitC p mtu = 0 := by unfold splitC; rw [if_neg (by have := H68.out; omega), if_neg (by have := HBb.out; omega), if_neg (by rw [HL.out, HT.out]; exact hfit), hdf]; rfl
          obtain ⟨s, hs⟩ : ∃ s, szOf mtu = s := ⟨_, rfl⟩
          have hS : splitL p mtu = cuts p s := by unfold splitL; rw [if_neg (by rw [HL.out, HT.out]; exact hfit), hs]
          have hz := szOf_facts H68.out
          rw [hs] at hz
          have hse : ((mtu - 20) / 8 * 8 : Int) = (s : Int) := by
            rw [← hs]
            unfold szOf
            have := H68.out
            omega
          have HC := Lib.hid (And.intro hC hS)
          have hmle : mtu ≤ 2020 := by have := HT.out; have := Hf.out; have := HL.out; omega
          have hs0 : 0 < s := by omega
          have hs1 : s ≤ 3000 := by omega
          obtain ⟨M1, hM1⟩ : ∃ M1 : Int, mtu - 20 = M1 := ⟨_, rfl⟩
          have q4 : IntKind.i64.wrap (mtu - 20) = M1 := by rw [IntKind.wrap_i64]; have := H68.out; omega
          have hM0 : 0 ≤ M1 := by have := H68.out; omega
          obtain ⟨D1, hD1⟩ : ∃ D1 : Int, M1.tdiv 8 = D1 := ⟨_, rfl⟩
          have hD2 : D1 = M1 / 8 := by rw [← hD1, Int.tdiv_eq_ediv_of_nonneg hM0]
          have q5 : IntKind.i64.wrap D1 = D1 := by rw [IntKind.wrap_i64]; omega
          have q6 : IntKind.i64.wrap (D1 * 8) = (s : Int) := by rw [IntKind.wrap_i64, ← hse, hM1, ← hD2]; omega
          rw [hdf] at c2
          have HDF := Lib.hid hdf
          clear hC hS hz hse hs hmle hM1 hM0 hD2 hfit hdf
          have hstart : Rf2 w2 (w2.alloc (.cells #[] 45)) (.slice (some ⟨w2.heap.size, 0, none⟩) 0 0) [] := Rf2.start w2
          have HST := Lib.hid hstart
          clear hstart c0 c1 c3 c4 c5 c6 c7 c8
          go_upto_region 12 with fail
          clear c2 c9 q1 q2 q3 q4 q5 q6
          generalize w2.alloc (.cells #[] 45) = w3 at HST ⊢
          generalize w2.heap.size = g3 at HST ⊢
          go_wp2_with fail
          go_loopw [8, 9, 10] (fun s8 s9 _ wr => ∃ (k : Nat) (l : List Ip), s9 = .int .i64 ((k * s : Nat) : Int) ∧ k ≤ cntOf L s ∧ l = (List.range k).map (fun i => seg p (i * s) s) ∧ Rf2 w2 wr s8 l) (fun _ s9 _ _ => L + s - (intOf s9).toNat)
          case atStart => exact ⟨0, [], by simp, Nat.zero_le _, rfl, HST.out⟩
          case round =>
            obtain ⟨k, l, rfl, hk, hlm, hPk⟩ := hrel
            have HPk := Lib.hid hPk
            have Hlm := Lib.hid hlm
            have HPr := Lib.hid (HP2.out.below hPk.base)
            obtain ⟨a, ha⟩ : ∃ a, k * s = a := ⟨_, rfl⟩
            have Ha := Lib.hid ha
            have hk2 := cntOf_iff (L := L) (k := k) hs0
            rw [ha] at hk2 ⊢
            have Hk := Lib.hid hk
            have Hk2 := Lib.hid hk2
            obtain ⟨c0, c1, c2, c3, c4, c5, c6, c7, c8, c9⟩ := HPr.out.cells
            rw [HTB.out] at c9
            clear hlm hPk ha hk hk2
            have hL2 : L ≤ 2000 := by rw [← HL.out]; exact Hf.out
            by_cases hlt : a < L
            · have q1 : decide ((a : Int) < (L : Int)) = true := decide_eq_true (by omega)
              obtain ⟨Es, hEs⟩ : ∃ Es : Int, (a : Int) + (s : Int) = Es := ⟨_, rfl⟩
              have q2 : IntKind.i64.wrap ((a : Int) + (s : Int)) = Es := by rw [IntKind.wrap_i64]; omega
              obtain ⟨E, hE⟩ : ∃ E : Nat, min (a + s) L = E := ⟨_, rfl⟩
              have hmin := fun ats ty W => min_run (P := Tryd.prog) ats ty Es (L : Int) (E : Int) (by omega) W
              obtain ⟨o1, ho1⟩ : ∃ o1 : Int, p.off + (a : Int) = o1 := ⟨_, rfl⟩
              have hR := (Ip.right_iff p).1 HBb.out
              have q3 : IntKind.i64.wrap (p.off + (a : Int)) = o1 := by have := hR.far; have := hR.off0; rw [IntKind.wrap_i64]; have := HL.out; omega
              have HE := Lib.hid hE
              have HEs := Lib.hid hEs
              have Ho1 := Lib.hid ho1
              have haE : a ≤ E := by omega
              have hEL : E ≤ L := by omega
              have hes2 : decide (Es < (L : Int)) = decide (a + s < L) := decide_eq_decide.2 (by omega)
              clear hE hEs ho1 hR
              go_upto_region 16 with (refine wpList_store_row rfl 45 (.tmp 10) (.tmp 42) rfl wr.heap.size #[.int .u32 p.tos, .int .u32 p.id, .bool p.df, .bool p.mf, .int .i64 p.off, .int .u32 p.ttl, .int .u32 p.proto, .int .u32 p.src, .int .u32 p.dst, .string TB] rfl rfl 45 _ (heap_alloc_new wr _) refIpSize rfl (by simp [Value.oneCell']) ?_; rw [setRow_alloc])
              have HX2 : Hid (FsAt (wr.alloc (.cells #[.int .u32 p.tos, .int .u32 p.id, .bool p.df, .bool p.mf, .int .i64 p.off, .int .u32 p.ttl, .int .u32 p.proto, .int .u32 p.src, .int .u32 p.dst, .string TB] 45)) wr.heap.size p) := by have h := FsAt.new wr p; rw [HTB.out] at h; exact h
              have HB3 := Lib.hid (below_al (Below.refl _ wr) (.cells #[.int .u32 p.tos, .int .u32 p.id, .bool p.df, .bool p.mf, .int .i64 p.off, .int .u32 p.ttl, .int .u32 p.proto, .int .u32 p.src, .int .u32 p.dst, .string TB] 45))
              generalize wr.alloc (.cells #[.int .u32 p.tos, .int .u32 p.id, .bool p.df, .bool p.mf, .int .i64 p.off, .int .u32 p.ttl, .int .u32 p.proto, .int .u32 p.src, .int .u32 p.dst, .string TB] 45) = w4 at HX2 HB3 ⊢
              obtain ⟨X, hX⟩ : ∃ X, wr.heap.size = X := ⟨_, rfl⟩
              have HXe := Lib.hid hX
              rw [hX] at HX2 ⊢
              have hBX : B0 ≠ X := by have := HPr.out.lt; omega
              have HBX := Lib.hid hBX
              clear c0 c1 c2 c3 c4 c5 c6 c7 c8 c9 hX q1 hBX
              have e4 := (HPr.out.below HB3.out).cells.2.2.2.2.1
              have d4 := HX2.out.cells.2.2.2.2.1
              have f4 := HX2.out.free 4
              go_upto_region 17 with fail
              have HX3 : Hid (FsAt (w4.setCell ⟨X, 4, none⟩ (.int .i64 o1)) X { p with off := o1 }) := Lib.hid (heap_setCell_same w4 X 4 _ _ (.int .i64 o1) HX2.out)
              have HB4 := Lib.hid (HB3.out.setCell (p := ⟨X, 4, none⟩) (by show wr.heap.size ≤ X; have := HXe.out; omega) (.int .i64 o1))
              generalize w4.setCell ⟨X, 4, none⟩ (.int .i64 o1) = w5 at HX3 HB4 ⊢
              clear e4 d4 f4 HX2 HB3 q3
              have e9 := (HPr.out.below HB4.out).cells.2.2.2.2.2.2.2.2.2
              rw [HTB.out] at e9
              have d9 := HX3.out.cells.2.2.2.2.2.2.2.2.2
              have f9 := HX3.out.free 9
              obtain ⟨bs, hbs⟩ : ∃ bs, (p.b.drop a).take (E - a) = bs := ⟨_, rfl⟩
              have hx : TB.extract a E = txt bs := by rw [← HTB.out, fs_mid, hbs]
              have Hbs := Lib.hid hbs
              clear hbs
              go_upto_region 18 with fail
              have HX5 : Hid (FsAt (w5.setCell ⟨X, 9, none⟩ (.string (txt bs))) X { p with off := o1, b := bs }) := Lib.hid (heap_setCell_same w5 X 9 _ _ (.string (txt bs)) HX3.out)
              have HB5 := Lib.hid (HB4.out.setCell (p := ⟨X, 9, none⟩) (by show wr.heap.size ≤ X; have := HXe.out; omega) (.string (txt bs)))
              generalize w5.setCell ⟨X, 9, none⟩ (.string (txt bs)) = w6 at HX5 HB5 ⊢
              clear e9 d9 f9 HX3 HB4 hx hmin
              obtain ⟨m2, hm2⟩ : ∃ m2, (p.mf || decide (a + s < L)) = m2 := ⟨_, rfl⟩
              have Hm2 := Lib.hid hm2
              have e9 := (HPr.out.below HB5.out).cells.2.2.2.2.2.2.2.2.2
              rw [HTB.out] at e9
              have e3 := (HPr.out.below HB5.out).cells.2.2.2.1
              have d3 : w6.cell? ⟨X, 3, none⟩ = some (.bool p.mf) := HX5.out.cells.2.2.2.1
              have f3 := HX5.out.free 3
              obtain ⟨mf, hmf⟩ : ∃ mf, p.mf = mf := ⟨_, rfl⟩
              rw [hmf] at e3 d3 hm2
              have HMf := Lib.hid hmf
              clear hmf
              go_cut [72] (fun _ wx => wx = w6.setCell ⟨X, 3, none⟩ (.bool m2))
              case first =>
                cases mf with
                | true =>
                  obtain rfl : true = m2 := by rw [← hm2]; rfl
                  clear e9
                  go_wp2_with fail
                  go_meet
                  rfl
                | false =>
                  by_cases hEL2 : a + s < L
                  · obtain rfl : true = m2 := by rw [← hm2, decide_eq_true hEL2]; rfl
                    have q4 : decide (Es < (L : Int)) = true := by rw [hes2, decide_eq_true hEL2]
                    go_wp2_with fail
                    go_meet
                    rfl
                  · obtain rfl : false = m2 := by rw [← hm2, decide_eq_false hEL2]; rfl
                    have q4 : decide (Es < (L : Int)) = false := by rw [hes2, decide_eq_false hEL2]
                    go_wp2_with fail
                    go_meet
                    rfl
              have hwc := hcut
              clear hcut e9 e3 d3 f3 hm2
              obtain ⟨q, hq⟩ : ∃ q : Ip, ({ p with off := o1, mf := m2, b := bs } : Ip) = q := ⟨_, rfl⟩
              have HX6 : Hid (FsAt wc X q) := Lib.hid (by rw [hwc, ← hq]; exact heap_setCell_same w6 X 3 _ _ (.bool m2) HX5.out)
              have HB6 : Hid (Below wr.heap.size wr wc) := Lib.hid (by rw [hwc]; exact HB5.out.setCell (p := ⟨X, 3, none⟩) (by show wr.heap.size ≤ X; have := HXe.out; omega) (.bool m2))
              have Hseg : Hid (q = seg p a s) := Lib.hid (by
                rw [← hq]
                unfold seg
                have h1 : (p.b.drop a).take (E - a) = (p.b.drop a).take s := by
                  have := HE.out
                  have := HL.out
                  by_cases h : a + s ≤ L
                  · congr 1; omega
                  · rw [List.take_of_length_le (by rw [List.length_drop]; omega), List.take_of_length_le (by rw [List.length_drop]; omega)]
                rw [← Ho1.out, ← Hm2.out, ← Hbs.out, h1, HL.out])
              clear hwc HX5 HB5 hq
              generalize wc = w7 at *
              obtain ⟨r0, r1, r2, r3, r4, r5, r6, r7, r8, r9⟩ := HX6.out.cells
              have HT8 := Lib.hid (FsAt.new w7 q)
              have HBa := Lib.hid (below_al (Below.refl _ w7) (.cells #[.int .u32 q.tos, .int .u32 q.id, .bool q.df, .bool q.mf, .int .i64 q.off, .int .u32 q.ttl, .int .u32 q.proto, .int .u32 q.src, .int .u32 q.dst, .string (txt q.b)] 45))
              have hPk7 := (HPk.out.below HB6.out).below HBa.out
              obtain ⟨sv', w8, run8, hPk8⟩ := hPk7.push (x := q) (c := 1) HT8.out (by
                have h1 := congrArg List.length Hlm.out
                rw [List.length_map, List.length_range] at h1
                have h2 := Hk.out
                have h3 := cnt_le L hs0
                omega) 50
              have HPk8 := Lib.hid hPk8
              clear hPk7 hPk8
              have q9 : IntKind.i64.wrap ((a : Int) + (s : Int)) = ((a + s : Nat) : Int) := by rw [IntKind.wrap_i64]; omega
              obtain ⟨a2, ha2⟩ : ∃ a2 : Nat, a + s = a2 := ⟨_, rfl⟩
              rw [ha2] at q9
              have Ha2 := Lib.hid ha2
              clear ha2 q2 hes2
              go_wp2_with (at_builtin; refine wpList_append_run rfl (.tmp 72) (.tmp 74) 50 50 rfl _ _ rfl rfl _ _ run8 ?_)
              have hk1 : k + 1 ≤ cntOf L s := Hk2.out.2 hlt
              have h1 : (k + 1) * s = a2 := by rw [Nat.succ_mul, Ha.out]; exact Ha2.out
              have h2 : l ++ [q] = (List.range (k + 1)).map (fun i => seg p (i * s) s) := by
                rw [List.range_succ, List.map_append, ← Hlm.out]
                show _ ++ [q] = _ ++ [seg p (k * s) s]
                rw [Ha.out, Hseg.out]
              go_roundw
              case rel => exact ⟨k + 1, l ++ [q], by rw [h1], hk1, h2, HPk8.out⟩
              case measure =>
                have := Ha2.out
                simp [intOf]
                omega
            · have q1 : decide ((a : Int) < (L : Int)) = false := decide_eq_false (by omega)
              have hkc : k = cntOf L s := by
                have h1 := Hk.out
                have h2 := Hk2.out
                omega
              have Hkc := Lib.hid hkc
              clear hkc c0 c1 c2 c3 c4 c5 c6 c7 c8
              go_wp2_with fail
              go_ret2
              refine ⟨u8, ?_, ?_⟩
              · rw [HC.out.1]
                rfl
              · rw [if_pos HC.out.1, HC.out.2]
                have h1 := HPk.out.from HB2.out
                rw [Hlm.out, Hkc.out, ← HL.out] at h1
                exact h1
    · have e0 := fs_some hbad
      have hz := ipTxt_size p.bad
      have hs : ¬ 9223372036854775807 < 6 + (ipTxt p.bad).size := by omega
      have hC : splitC p mtu = p.bad := by unfold splitC; rw [if_neg (by omega), if_pos hbad]
      have hI : splitIn p mtu = true := by unfold splitIn; rw [decide_eq_true (by omega), decide_eq_true hbad]; rfl
      have HC := Lib.hid (And.intro hC (And.intro hI (wrongT_bad hbad)))
      have HBAD := Lib.hid hbad
      clear hC hI hbad hz
      generalize ipTxt p.bad = T at *
      go_wp2_with fail
      go_ret2
      refine ⟨.slice none 0 0, ?_, by rw [HC.out.1, if_neg HBAD.out]; exact Rf2.nil HB2.out⟩
      rw [HC.out.1, HC.out.2.1, ← HC.out.2.2]
      rfl
end Go.Proofs.YtdmogppkambgaaaDoor
namespace Go.Proofs.YtdmogppkambgaaaDoor
open Go.RowKit

/-- The document's packet in a row, from an offset on. -/
structure Rv.At (w : World) (g o : Nat) (p : Ip) : Prop where
  c0 : w.cell? ⟨g, o, none⟩ = some (.int .u32 p.tos)
  c1 : w.cell? ⟨g, o + 1, none⟩ = some (.int .u32 p.id)
  c2 : w.cell? ⟨g, o + 2, none⟩ = some (.bool p.df)
  c3 : w.cell? ⟨g, o + 3, none⟩ = some (.bool p.mf)
  c4 : w.cell? ⟨g, o + 4, none⟩ = some (.int .i64 p.off)
  c5 : w.cell? ⟨g, o + 5, none⟩ = some (.int .u32 p.ttl)
  c6 : w.cell? ⟨g, o + 6, none⟩ = some (.int .u32 p.proto)
  c7 : w.cell? ⟨g, o + 7, none⟩ = some (.int .u32 p.src)
  c8 : w.cell? ⟨g, o + 8, none⟩ = some (.int .u32 p.dst)
  c9 : w.cell? ⟨g, o + 9, none⟩ = some (.string (txt p.b))
theorem Rv.At.blk {w w' : World} {g o : Nat} {p : Ip} (h : Rv.At w g o p) (e : w'.heap[g]? = w.heap[g]?) : Rv.At w' g o p := by
  have hc : ∀ {i : Nat} {v : Value}, w.cell? ⟨g, i, none⟩ = some v → w'.cell? ⟨g, i, none⟩ = some v := fun hi => (World.cell?_of_block e).trans hi
  exact ⟨hc h.c0, hc h.c1, hc h.c2, hc h.c3, hc h.c4, hc h.c5, hc h.c6, hc h.c7, hc h.c8, hc h.c9⟩
theorem Pv.At.blk {w w' : World} {g o : Nat} {x : Pv} (h : Pv.At w g o x) (e : w'.heap[g]? = w.heap[g]?) : Pv.At w' g o x := by
  have hc : ∀ {i : Nat} {v : Value}, w.cell? ⟨g, i, none⟩ = some v → w'.cell? ⟨g, i, none⟩ = some v := fun hi => (World.cell?_of_block e).trans hi
  exact ⟨hc h.c0, hc h.c1, hc h.c2, hc h.c3, hc h.c4, hc h.c5, hc h.c6, hc h.c7, hc h.c8, hc h.c9⟩
theorem Rf2.shape {w0 W : World} {sv : Value} {l : List Ip} (h : Rf2 w0 W sv l) : ∃ A c, sv = .slice A l.length c ∧ l.length ≤ c := by
  rcases h.row.2 with ⟨e, h0⟩ | ⟨g, cap, cur, e, _, _, h1, _⟩
  · exact ⟨none, 0, by rw [e, h0], by omega⟩
  · exact ⟨_, cap, e, h1⟩
theorem Rf2.rows {w0 W : World} {A : Option Addr} {n c : Nat} {l : List Ip} (h : Rf2 w0 W (.slice A n c) l) {k : Nat} {x : Ip} (hk : l[k]? = some x) : ∃ g o, A = some ⟨g, o, none⟩ ∧ Rv.At W g (o + k * 10) x ∧ w0.heap.size ≤ g ∧ g < W.heap.size := by
  rcases h.row.2 with ⟨_, h0⟩ | ⟨g, cap, cur, e, hb, hg, h1, _, h3, h4⟩
  · have := (List.getElem?_eq_some_iff.1 hk).1
    omega
  · cases e
    have hkl := (List.getElem?_eq_some_iff.1 hk).1
    have hcell : ∀ j u, j < 10 → (refCells x)[j]? = some u → W.cell? ⟨g, 0 + k * 10 + j, none⟩ = some u := fun j u hj hu => by
      rw [cell_of_row W g _ _ _ _ hg, Nat.zero_add, ← Array.getElem?_toList, ← hu, ← refs_get l k j x hk hj, ← h4, List.getElem?_take_of_lt (by omega)]
    exact ⟨g, 0, rfl, ⟨hcell 0 _ (by omega) rfl, hcell 1 _ (by omega) rfl, hcell 2 _ (by omega) rfl, hcell 3 _ (by omega) rfl, hcell 4 _ (by omega) rfl, hcell 5 _ (by omega) rfl, hcell 6 _ (by omega) rfl, hcell 7 _ (by omega) rfl, hcell 8 _ (by omega) rfl, hcell 9 _ (by omega) rfl⟩, hb, (Array.getElem?_eq_some_iff.1 hg).1⟩
theorem Pk2.rows {w0 W : World} {A : Option Addr} {n c : Nat} {l : List Pv} (h : Pk2 w0 W (.slice A n c) l) {k : Nat} {x : Pv} (hk : l[k]? = some x) :
    ∃ g o, A = some ⟨g, o, none⟩ ∧ Pv.At W g (o + k * 10) x ∧ w0.heap.size ≤ g ∧ g < W.heap.size ∧ ∀ y ∈ l, y.sl.ownBlock ≠ some g := by
  obtain ⟨g, rfl, hat⟩ := h.at hk
  rcases h.row.2 with ⟨e, _⟩ | ⟨g', cap, cur, e, hb, hg, _⟩
  · cases e
  · cases e
    exact ⟨g, 0, rfl, hat, hb, (Array.getElem?_eq_some_iff.1 hg).1, fun y hy => own_ne (h.own y hy) hg ipTy_ne⟩
/-- Of what was there nothing is another one but the blocks F. -/
structure Wv (w w' : World) (F : Nat → Prop) : Prop where
  os : w'.os = w.os
  tape : w'.tape = w.tape
  output : w'.output = w.output
  size : w.heap.size ≤ w'.heap.size
  block : ∀ k, k < w.heap.size → ¬ F k → w'.heap[k]? = w.heap[k]?
section
variable {w w' w2 : World} {F F' : Nat → Prop}
theorem Wv.refl (w : World) (F : Nat → Prop) : Wv w w F := ⟨rfl, rfl, rfl, Nat.le_refl _, fun _ _ _ => rfl⟩
theorem Wv.to (h : Wv w w' F) (hb : Below w'.heap.size w' w2) : Wv w w2 F :=
  ⟨hb.os.trans h.os, hb.tape.trans h.tape, hb.output.trans h.output, Nat.le_trans h.size hb.size, fun k hk hn => (hb.block k (Nat.lt_of_lt_of_le hk h.size)).trans (h.block k hk hn)⟩
theorem Wv.set (h : Wv w w' F) {g : Nat} (hF : F g) (i : Nat) (v : Value) : Wv w (w'.setCell ⟨g, i, none⟩ v) F :=
  ⟨h.os, h.tape, h.output, by simpa using h.size, fun k hk hn => (Below.heap_setCell _ _ _ _ (fun e => hn (by have e' : k = g := e; rw [e']; exact hF))).trans (h.block k hk hn)⟩
theorem Wv.wide (h : Wv w w' F) (hF : ∀ k, F k → F' k) : Wv w w' F' := ⟨h.os, h.tape, h.output, h.size, fun k hk hn => h.block k hk (fun e => hn (hF k e))⟩
theorem Wv.base {w0 : World} (h : Wv w w' F) (hb : Below w0.heap.size w0 w) (hF : ∀ k, F k → w0.heap.size ≤ k) : Below w0.heap.size w0 w' :=
  ⟨h.os.trans hb.os, h.tape.trans hb.tape, h.output.trans hb.output, Nat.le_trans hb.size h.size, fun k hk => (h.block k (Nat.lt_of_lt_of_le hk hb.size) (fun e => by have := hF k e; omega)).trans (hb.block k hk)⟩
end
/-- Older bytes beside it. -/
theorem rd_over {w5 w7 wr : World} {F : Nat → Prop} {A : Option Addr} {c : Nat} {bs : List UInt8} (hr : Rd w5 (.slice A bs.length c) bs) (hb : Below w5.heap.size w5 w7) (h : Wv w7 wr F) (hF : ∀ k, F k → w5.heap.size ≤ k) : Rd wr (.slice A bs.length c) bs := by
  by_cases he : bs = []
  · subst he
    obtain ⟨A', c', e, hc, _⟩ := hr
    exact ⟨A', c', e, hc, fun h0 => absurd h0 (by simp)⟩
  · obtain ⟨x, rfl⟩ := rd_some hr (List.length_pos_iff.2 he)
    have h1 := rd_old hr he x rfl
    exact rd_blk hr ((h.block _ (Nat.lt_of_lt_of_le h1 hb.size) (fun e => by have := hF _ e; omega)).trans (hb.block _ h1))
/-- The blocks of the first ones. -/
def Fo (l : List Pv) (i : Nat) (k : Nat) : Prop := ∃ j x, j < i ∧ l[j]? = some x ∧ x.sl.ownBlock = some k
theorem fo_apart {w0 W : World} {sv : Value} {l : List Pv} (h : Pk2 w0 W sv l) {i : Nat} {x : Pv} (hx : l[i]? = some x) {k : Nat} (hk : x.sl.ownBlock = some k) : ¬ Fo l i k := by
  rintro ⟨j, y, hj, hy, hyk⟩
  obtain ⟨h1, h2⟩ := List.getElem?_eq_some_iff.1 hx
  obtain ⟨h3, h4⟩ := List.getElem?_eq_some_iff.1 hy
  have := List.pairwise_iff_getElem.1 h.apart j i h3 h1 hj k (by rw [h4]; exact hyk)
  rw [h2] at this
  exact this hk
theorem fo_low {w0 W : World} {sv : Value} {l : List Pv} (h : Pk2 w0 W sv l) {i k : Nat} (hF : Fo l i k) : w0.heap.size ≤ k ∧ k < W.heap.size := by
  obtain ⟨j, x, _, hx, hk⟩ := hF
  exact ((h.own x (List.mem_of_getElem? hx)).lt k hk)
/-- Bytes of a block of one's own that may be written over. -/
structure Bo (W : World) (x : Pv) : Prop where
  ex : 0 < x.p.b.length → ∃ g cur, x.B = some ⟨g, 0, none⟩ ∧ x.sl.ownBlock = some g ∧ W.heap[g]? = some (.cells cur 5 (0, 0)) ∧ x.p.b.length ≤ cur.size
theorem Bo.of {W : World} {B : Nat} {x : Pv} (h : W.ownsRow B 5 1 x.sl x.p.b.length (x.p.b.map B8)) : Bo W x := ⟨fun h0 => by
  rcases h.2 with ⟨_, e⟩ | ⟨g, cap, cur, e, _, hg, h1, _, h3, h4⟩
  · omega
  · have e' : Value.slice x.B x.p.b.length x.c = .slice (some ⟨g, 0, none⟩) x.p.b.length cap := e
    simp only [Value.slice.injEq] at e'
    exact ⟨g, cur, e'.1, by rw [e]; rfl, hg, by rw [h3]; omega⟩⟩
theorem Bo.set {W : World} {x : Pv} (h : Bo W x) {g : Nat} (hg : x.sl.ownBlock = some g) (i : Nat) (v : Value) : Bo (W.setCell ⟨g, i, none⟩ v) x := ⟨fun h0 => by
  obtain ⟨g', cur, e1, e2, e3, e4⟩ := h.ex h0
  obtain rfl : g = g' := Option.some.inj (hg.symm.trans e2)
  exact ⟨g, cur.setIfInBounds i v, e1, e2, by simp [World.setCell, Array.getElem?_modify, e3], by simpa using e4⟩⟩
theorem Bo.below {W W' : World} {x : Pv} (h : Bo W x) (hb : Below W.heap.size W W') : Bo W' x := ⟨fun h0 => by
  obtain ⟨g, cur, e1, e2, e3, e4⟩ := h.ex h0
  exact ⟨g, cur, e1, e2, (hb.block g (Array.getElem?_eq_some_iff.1 e3).1).trans e3, e4⟩⟩
end Go.Proofs.YtdmogppkambgaaaDoor
namespace Go.Proofs.YtdmogppkambgaaaDoor
open Go.RowKit

theorem dec_sz (n : Nat) : (dec n).size ≤ 2 := dec_size n
/-- told, of what Split answers. -/
theorem ftold_any {W : World} {c : Nat} {b : Bool} {ev : Value} (hc : c < 14) (hE : ErrIs W c b ev) :
    Calls Tryd.prog 19 #[ev] W fun e w' => e = .returned (.string (wrongT c b)) ∧ Below W.heap.size W w' := by
  unfold wrongT
  rcases hE with ⟨rfl, rfl⟩ | ⟨h0, x, rfl, hch⟩
  · rw [if_pos rfl]
    exact (told_nil W).mono fun e w' ⟨he, hw⟩ => ⟨he, by subst hw; exact Below.refl _ _⟩
  · rw [if_neg h0]
    refine (told_any c hc _ _ W ?_ hch).mono fun e w' ⟨he, m, hw⟩ => ⟨he, by subst hw; exact ⟨rfl, rfl, rfl, Nat.le_refl _, fun _ _ => rfl⟩⟩
    have hd := dec_size c
    cases b
    · show (fragWord ++ colon ++ (errorWord ++ dec c)).size ≤ _
      simp only [ByteArray.size_append]
      show 4 + 2 + (6 + _) ≤ _
      omega
    · show (fragWord ++ colon ++ (ipWord ++ colon ++ (errorWord ++ dec c))).size ≤ _
      simp only [ByteArray.size_append]
      show 4 + 2 + (4 + 2 + (6 + _)) ≤ _
      omega
theorem splitC_lt (p : Ip) (mtu : Int) : splitC p mtu < 14 := by
  have hb : p.bad ≤ 7 := by unfold Ip.bad; split <;> (try split) <;> omega
  unfold splitC
  split <;> (try split) <;> (try split) <;> (try split) <;> omega
set_option maxRecDepth 100000 in
set_option maxHeartbeats 8000000 in
theorem fragSplits_of (X0 : ∀ W, W.cell? ⟨0, 0, none⟩ = some (.iface 121 (.agg #[.pointer (some ⟨4, 27, none⟩)])) → Calls Tryd.prog 14 #[] W fun e w' => e = .returned (.bool true) ∧ Below W.heap.size W w')
    (p : Ip) (A : Option Addr) (c : Nat) (mtu : Int) (w : World) (hg : w.cell? ⟨0, 0, none⟩ = some (.iface 121 (.agg #[.pointer (some ⟨4, 27, none⟩)]))) (hfit : p.Fit) (hc : c ≤ 9223372036854775807) (hr : Rd w (.slice A p.b.length c) p.b) (hm1 : -9223372036854775808 ≤ mtu) (hm2 : mtu ≤ 9223372036854775807) :
    Calls Tryd.prog 4 #[.agg #[.int .u8 p.tos, .int .u16 p.id, .bool p.df, .bool p.mf, .int .i64 p.off, .int .u8 p.ttl, .int .u8 p.proto, .int .u32 p.src, .int .u32 p.dst, .slice A p.b.length c], .int .i64 mtu] w fun e w' => e = .returned (.bool true) ∧ Below w.heap.size w w' := by
  have Hfit := Lib.hid hfit
  have hB0 : Below w.heap.size w (w.alloc (.cells #[.int .u8 p.tos, .int .u16 p.id, .bool p.df, .bool p.mf, .int .i64 p.off, .int .u8 p.ttl, .int .u8 p.proto, .int .u32 p.src, .int .u32 p.dst, .slice A p.b.length c] 42)) := (Below.refl _ w).alloc (Nat.le_refl _) _
  have X0 := Lib.hid (X0 _ ((hB0.cell (World.block_lt_of_cell? w _ hg)).trans hg))
  have M0 := Lib.hid (heap_alloc_new w (.cells #[.int .u8 p.tos, .int .u16 p.id, .bool p.df, .bool p.mf, .int .i64 p.off, .int .u8 p.ttl, .int .u8 p.proto, .int .u32 p.src, .int .u32 p.dst, .slice A p.b.length c] 42))
  have B0 := Lib.hid hB0
  have R0 := Lib.hid (hr.below hB0)
  have hfl : p.few.b.length ≤ 2000 := by show (p.b.take 2000).length ≤ 2000; rw [List.length_take]; omega
  clear hfit hg hB0 hr
  go_enter Tryd.func4, Tryd.ntmps4
  go_upto_region 1 with fail
  generalize w.alloc (.cells #[.int .u8 p.tos, .int .u16 p.id, .bool p.df, .bool p.mf, .int .i64 p.off, .int .u8 p.ttl, .int .u8 p.proto, .int .u32 p.src, .int .u32 p.dst, .slice A p.b.length c] 42) = w0 at X0 M0 B0 R0 ⊢
  obtain ⟨G, hG⟩ : ∃ G, w.heap.size = G := ⟨_, rfl⟩
  have HGe := Lib.hid hG
  rw [hG] at M0 B0 ⊢
  clear hG
  go_upto_region 2 with (go_at_call 14; (with_reducible refine X0.out.mono ?_); rintro e w1 ⟨rfl, hB⟩; (have B1 := Lib.hid hB); clear hB)
  have M1 := Lib.hid ((B1.out.block G (Array.getElem?_eq_some_iff.1 M0.out).1).trans M0.out)
  have R1 := Lib.hid (R0.out.below B1.out)
  have Bw1 := Lib.hid (below_to B0.out B1.out (by have := B0.out.size; have := (Array.getElem?_eq_some_iff.1 M0.out).1; omega))
  clear X0 M0 B0 R0 B1
  have XF := Lib.hid (few2_any p A c w1 R1.out hc)
  unfold FewTold Ip.val Ip.row at XF
  obtain ⟨c0, c1, c2, c3, c4, c5', c6, c7, c8, c9⟩ := IpAt.cells (p := p) (bv := .slice A p.b.length c) M1.out
  go_upto_region 3 with (first
    | (go_at_call 15; (with_reducible refine XF.out.mono ?_); rintro e w2 ⟨g5, c5, rfl, hr5, hg5, hB5, hcc5⟩; (have M2 := Lib.hid ((hB5.block G (Array.getElem?_eq_some_iff.1 M1.out).1).trans M1.out)); (have B2 := Lib.hid hB5); (have R2 := Lib.hid hr5); (have HC5 := Lib.hid hcc5); (have NG : Hid (g5 ≠ G) := Lib.hid (by have := (Array.getElem?_eq_some_iff.1 M1.out).1; omega)); clear hr5 hg5 hB5 hcc5)
    | (refine wpList_store_row rfl 42 (.tmp 2) (.tmp 15) rfl G #[.int .u8 p.tos, .int .u16 p.id, .bool p.df, .bool p.mf, .int .i64 p.off, .int .u8 p.ttl, .int .u8 p.proto, .int .u32 p.src, .int .u32 p.dst, .slice (some ⟨g5, 0, none⟩) p.few.b.length c5] rfl rfl 42 _ M2.out ipSize rfl (by simp [Value.oneCell']) ?_))
  have M3 := Lib.hid (setRow_heap _ _ _ #[.int .u8 p.tos, .int .u16 p.id, .bool p.df, .bool p.mf, .int .i64 p.off, .int .u8 p.ttl, .int .u8 p.proto, .int .u32 p.src, .int .u32 p.dst, .slice (some ⟨g5, 0, none⟩) p.few.b.length c5] _ _ M2.out)
  have R3 := Lib.hid (rd_row R2.out NG.out #[.int .u8 p.tos, .int .u16 p.id, .bool p.df, .bool p.mf, .int .i64 p.off, .int .u8 p.ttl, .int .u8 p.proto, .int .u32 p.src, .int .u32 p.dst, .slice (some ⟨g5, 0, none⟩) p.few.b.length c5])
  have Bw3 := Lib.hid (below_setRow (below_to Bw1.out B2.out (by have := Bw1.out.size; have := (Array.getElem?_eq_some_iff.1 M1.out).1; omega)) (Nat.le_refl G) #[.int .u8 p.tos, .int .u16 p.id, .bool p.df, .bool p.mf, .int .i64 p.off, .int .u8 p.ttl, .int .u8 p.proto, .int .u32 p.src, .int .u32 p.dst, .slice (some ⟨g5, 0, none⟩) p.few.b.length c5])
  generalize w2.setRow G #[.int .u8 p.tos, .int .u16 p.id, .bool p.df, .bool p.mf, .int .i64 p.off, .int .u8 p.ttl, .int .u8 p.proto, .int .u32 p.src, .int .u32 p.dst, .slice (some ⟨g5, 0, none⟩) p.few.b.length c5] = w3 at M3 R3 Bw3 ⊢
  clear c0 c1 c2 c3 c4 c5' c6 c7 c8 c9 XF R1 R2 B2 M1 M2 Bw1
  have hin := Ip.few_in Hfit.out
  have HIN := Lib.hid hin
  have XO : Hid (∀ W, Below w3.heap.size w3 W → Calls Tryd.prog 16 #[.agg #[.int .u8 p.tos, .int .u16 p.id, .bool p.df, .bool p.mf, .int .i64 p.off, .int .u8 p.ttl, .int .u8 p.proto, .int .u32 p.src, .int .u32 p.dst, .slice (some ⟨g5, 0, none⟩) p.few.b.length c5]] W fun e w' => e = .returned (.agg #[.int .u32 p.tos, .int .u32 p.id, .bool p.df, .bool p.mf, .int .i64 p.off, .int .u32 p.ttl, .int .u32 p.proto, .int .u32 p.src, .int .u32 p.dst, .string (txt p.few.b)]) ∧ Below W.heap.size W w') := fun W hW => vOf_lit p.few hin (some ⟨g5, 0, none⟩) c5 W (R3.out.below hW)
  obtain ⟨c0, c1, c2, c3, c4, c5', c6, c7, c8, c9⟩ : w3.cell? ⟨G, 0, none⟩ = some (.int .u8 p.tos) ∧ w3.cell? ⟨G, 1, none⟩ = some (.int .u16 p.id) ∧ w3.cell? ⟨G, 2, none⟩ = some (.bool p.df) ∧ w3.cell? ⟨G, 3, none⟩ = some (.bool p.mf) ∧ w3.cell? ⟨G, 4, none⟩ = some (.int .i64 p.off) ∧ w3.cell? ⟨G, 5, none⟩ = some (.int .u8 p.ttl) ∧ w3.cell? ⟨G, 6, none⟩ = some (.int .u8 p.proto) ∧ w3.cell? ⟨G, 7, none⟩ = some (.int .u32 p.src) ∧ w3.cell? ⟨G, 8, none⟩ = some (.int .u32 p.dst) ∧ w3.cell? ⟨G, 9, none⟩ = some (.slice (some ⟨g5, 0, none⟩) p.few.b.length c5) := IpAt.cells (p := p.few) (bv := .slice (some ⟨g5, 0, none⟩) p.few.b.length c5) M3.out
  have XO3 := Lib.hid (XO.out w3 (Below.refl _ _))
  go_upto_region 4 with (first
    | (go_at_call 16; (with_reducible refine XO3.out.mono ?_); rintro e w4 ⟨rfl, hB⟩; (have B4 := Lib.hid hB); clear hB)
    | (refine wpList_store_row rfl 45 (.tmp 6) (.tmp 17) rfl w4.heap.size #[.int .u32 p.tos, .int .u32 p.id, .bool p.df, .bool p.mf, .int .i64 p.off, .int .u32 p.ttl, .int .u32 p.proto, .int .u32 p.src, .int .u32 p.dst, .string (txt p.few.b)] rfl rfl 45 _ (heap_alloc_new w4 _) refIpSize rfl (by simp [Value.oneCell']) ?_; rw [setRow_alloc]))
  clear c0 c1 c2 c3 c4 c5' c6 c7 c8 c9 XO3
  have HQ5 : Hid (FsAt (w4.alloc (.cells #[.int .u32 p.tos, .int .u32 p.id, .bool p.df, .bool p.mf, .int .i64 p.off, .int .u32 p.ttl, .int .u32 p.proto, .int .u32 p.src, .int .u32 p.dst, .string (txt p.few.b)] 45)) w4.heap.size p.few) := FsAt.new w4 p.few
  have B5 := Lib.hid (below_al B4.out (.cells #[.int .u32 p.tos, .int .u32 p.id, .bool p.df, .bool p.mf, .int .i64 p.off, .int .u32 p.ttl, .int .u32 p.proto, .int .u32 p.src, .int .u32 p.dst, .string (txt p.few.b)] 45))
  have HXG : Hid (w3.heap.size ≤ w4.heap.size) := B4.out.size
  generalize w4.alloc (.cells #[.int .u32 p.tos, .int .u32 p.id, .bool p.df, .bool p.mf, .int .i64 p.off, .int .u32 p.ttl, .int .u32 p.proto, .int .u32 p.src, .int .u32 p.dst, .string (txt p.few.b)] 45) = w5 at HQ5 B5 ⊢
  obtain ⟨X, hX⟩ : ∃ X, w4.heap.size = X := ⟨_, rfl⟩
  rw [hX] at HQ5 HXG ⊢
  clear hX B4
  have MA5 := Lib.hid ((B5.out.block G (Array.getElem?_eq_some_iff.1 M3.out).1).trans M3.out)
  have R5 := Lib.hid (R3.out.below B5.out)
  have Bw5 := Lib.hid (below_to Bw3.out B5.out (by have := Bw3.out.size; have := (Array.getElem?_eq_some_iff.1 M3.out).1; omega))
  have HGX : Hid (G < X) := by have h1 := HXG.out; have h2 := (Array.getElem?_eq_some_iff.1 M3.out).1; show G < X; omega
  have XSp : Hid (Calls Tryd.prog 17 #[.agg #[.int .u8 p.tos, .int .u16 p.id, .bool p.df, .bool p.mf, .int .i64 p.off, .int .u8 p.ttl, .int .u8 p.proto, .int .u32 p.src, .int .u32 p.dst, .slice (some ⟨g5, 0, none⟩) p.few.b.length c5], .int .i64 mtu] w5 (SplitVal2 p.few mtu w5)) := fsplit_any p.few (some ⟨g5, 0, none⟩) c5 mtu w5 hin hfl HC5.out hm1 hm2 R5.out
  obtain ⟨c0, c1, c2, c3, c4, c5', c6, c7, c8, c9⟩ : w5.cell? ⟨G, 0, none⟩ = some (.int .u8 p.tos) ∧ w5.cell? ⟨G, 1, none⟩ = some (.int .u16 p.id) ∧ w5.cell? ⟨G, 2, none⟩ = some (.bool p.df) ∧ w5.cell? ⟨G, 3, none⟩ = some (.bool p.mf) ∧ w5.cell? ⟨G, 4, none⟩ = some (.int .i64 p.off) ∧ w5.cell? ⟨G, 5, none⟩ = some (.int .u8 p.ttl) ∧ w5.cell? ⟨G, 6, none⟩ = some (.int .u8 p.proto) ∧ w5.cell? ⟨G, 7, none⟩ = some (.int .u32 p.src) ∧ w5.cell? ⟨G, 8, none⟩ = some (.int .u32 p.dst) ∧ w5.cell? ⟨G, 9, none⟩ = some (.slice (some ⟨g5, 0, none⟩) p.few.b.length c5) := IpAt.cells (p := p.few) (bv := .slice (some ⟨g5, 0, none⟩) p.few.b.length c5) MA5.out
  go_upto_region 5 with (go_at_call 17; (with_reducible refine XSp.out.mono ?_); rintro e w6 ⟨l, A6, d6, ev, rfl, hE, hlm, hPk⟩; (have E6 := Lib.hid hE); (have L6 := Lib.hid hlm); (have P6 := Lib.hid hPk); clear hE hlm hPk)
  clear c0 c1 c2 c3 c4 c5' c6 c7 c8 c9 XSp M3 R3 Bw3 B5 HXG
  have MA6 := Lib.hid ((P6.out.base.block G (Array.getElem?_eq_some_iff.1 MA5.out).1).trans MA5.out)
  have HQ6 := Lib.hid (HQ5.out.below P6.out.base)
  have XRs : Hid (Calls Tryd.prog 18 #[.agg #[.int .u32 p.tos, .int .u32 p.id, .bool p.df, .bool p.mf, .int .i64 p.off, .int .u32 p.ttl, .int .u32 p.proto, .int .u32 p.src, .int .u32 p.dst, .string (txt p.few.b)], .int .i64 mtu] w6 (RSplit p.few mtu w6)) := rsplit_any p.few mtu w6 hfl hm1 hm2
  obtain ⟨c0, c1, c2, c3, c4, c5', c6, c7, c8, c9⟩ : w6.cell? ⟨X, 0, none⟩ = some (.int .u32 p.tos) ∧ w6.cell? ⟨X, 1, none⟩ = some (.int .u32 p.id) ∧ w6.cell? ⟨X, 2, none⟩ = some (.bool p.df) ∧ w6.cell? ⟨X, 3, none⟩ = some (.bool p.mf) ∧ w6.cell? ⟨X, 4, none⟩ = some (.int .i64 p.off) ∧ w6.cell? ⟨X, 5, none⟩ = some (.int .u32 p.ttl) ∧ w6.cell? ⟨X, 6, none⟩ = some (.int .u32 p.proto) ∧ w6.cell? ⟨X, 7, none⟩ = some (.int .u32 p.src) ∧ w6.cell? ⟨X, 8, none⟩ = some (.int .u32 p.dst) ∧ w6.cell? ⟨X, 9, none⟩ = some (.string (txt p.few.b)) := HQ6.out.cells
  go_upto_region 6 with (go_at_call 18; (with_reducible refine XRs.out.mono ?_); rintro e w7 ⟨sv, rfl, hRf⟩; (have F7 := Lib.hid hRf); clear hRf)
  clear c0 c1 c2 c3 c4 c5' c6 c7 c8 c9 XRs
  have F7' : Hid (Rf2 w6 w7 sv (l.map Pv.p)) := by have h := F7.out; rw [← L6.out] at h; exact h
  obtain ⟨A7, d7, rfl, hd7⟩ := F7'.out.shape
  rw [List.length_map] at hd7 F7' ⊢
  have E7 : Hid (ErrIs w7 (splitC p.few mtu) (splitIn p.few mtu) ev) := by
    rcases E6.out with ⟨h, e⟩ | ⟨h, x, e, hch⟩
    · exact .inl ⟨h, e⟩
    · exact .inr ⟨h, x, e, hch.below F7'.out.base⟩
  have XT := Lib.hid (ftold_any (splitC_lt p.few mtu) E7.out)
  have P7 := Lib.hid (P6.out.below F7'.out.base)
  have P6' : Hid (Pk2 w5 w6 (.slice A6 l.length d6) l) := P6.out
  have HLL := Lib.hid L6.out
  have P7' : Hid (Pk2 w5 w7 (.slice A6 l.length d6) l) := P7.out
  have M7 := Lib.hid ((F7'.out.base.block G (Array.getElem?_eq_some_iff.1 MA6.out).1).trans MA6.out)
  have HQ7 := Lib.hid (HQ6.out.below F7'.out.base)
  have R7 := Lib.hid (R5.out.below P7'.out.base)
  have Bw7 := Lib.hid (below_to Bw5.out P7'.out.base (by have := Bw5.out.size; have := (Array.getElem?_eq_some_iff.1 MA5.out).1; omega))
  have hlow : w5.heap.size ≤ w6.heap.size := P6.out.base.size
  have HLOW := Lib.hid hlow
  have HX5 : Hid (G < w5.heap.size ∧ X < w5.heap.size) := ⟨(Array.getElem?_eq_some_iff.1 MA5.out).1, (Array.getElem?_eq_some_iff.1 HQ5.out).1⟩
  have hll : l.length ≤ 9223372036854775807 := by have := P6.out.lenc; omega
  generalize wrongT (splitC p.few mtu) (splitIn p.few mtu) = T at XT ⊢
  clear F7 E6 L6 P6 E7 P7 MA5 MA6 HQ6 hlow hd7
  go_upto_region 9 with (go_at_call 19; (with_reducible refine XT.out.mono ?_); rintro e w8 ⟨rfl, hB⟩; (have B8 := Lib.hid hB); clear hB)
  have HB8 := Lib.hid B8.out
  clear XT
  go_wp2_with fail
  go_loopw [11, 12] (fun s11 _ wr => ∃ k : Nat, s11 = .int .i64 (k : Int) ∧ k ≤ l.length ∧ Wv w7 wr (Fo l k)) (fun s11 _ _ => l.length - (intOf s11).toNat)
  case atStart => exact ⟨0, rfl, Nat.zero_le _, (Wv.refl w7 _).to HB8.out⟩
  case round =>
    obtain ⟨k, rfl, hk, hV⟩ := hrel
    have HV := Lib.hid hV
    clear hV
    by_cases hlt : k < l.length
    · have q1 : decide ((k : Int) < (l.length : Int)) = true := decide_eq_true (by omega)
      obtain ⟨x, hx⟩ : ∃ x, l[k]? = some x := ⟨l[k], List.getElem?_eq_getElem hlt⟩
      have hxm : x ∈ l := List.mem_of_getElem? hx
      have hxp : (l.map Pv.p)[k]? = some x.p := by rw [List.getElem?_map, hx]; rfl
      obtain ⟨g6, o6, rfl, hX6, hg6, hg6l, hg6n⟩ := P7'.out.rows hx
      obtain ⟨g7, o7, rfl, hX7, hg7, hg7l⟩ := F7'.out.rows hxp
      have hF : ∀ j, Fo l k j → w5.heap.size ≤ j ∧ j < w6.heap.size := fun j hj => by
        obtain ⟨i, y, _, hy, hyj⟩ := hj
        have h1 := (P6'.out.own y (List.mem_of_getElem? hy)).lt j hyj
        exact h1
      have hX6' := hX6.blk (HV.out.block g6 hg6l (fun ⟨j, y, _, hy, e⟩ => hg6n y (List.mem_of_getElem? hy) e))
      have hX7' := hX7.blk (HV.out.block g7 hg7l (fun h => by have := (hF _ h).2; omega))
      have hown := owns_at (w' := wr) (P7'.out.own x hxm) (fun g hg => HV.out.block g (own_lt (P7'.out.own x hxm) hg) (fo_apart P7'.out hx hg))
      have hbx := Bo.of hown
      have hin2 : x.p.In ∧ x.p.b.length ≤ 2000 := by
        have h1 : x.p ∈ l.map Pv.p := List.mem_map.2 ⟨x, hxm, rfl⟩
        rw [HLL.out] at h1
        by_cases hc : splitC p.few mtu = 0
        · rw [if_pos hc] at h1
          have h2 := splitL_in HIN.out hc h1
          exact ⟨h2.1, by omega⟩
        · rw [if_neg hc] at h1
          cases h1
      have hin := hin2.1
      have hfx := hin2.2
      have hrx : Rd wr x.sl x.p.b := own_rd hown
      have HBX := Lib.hid hbx
      have HX6 := Lib.hid hX6'
      have HX7 := Lib.hid hX7'
      have HXK := Lib.hid hx
      have KS : Hid (∀ W', Below wr.heap.size wr W' → (fun W' : World => W'.cell? ⟨g6, o6 + k * 10, none⟩ = some (.int .u8 x.p.tos) ∧ W'.cell? ⟨g6, o6 + k * 10 + 1, none⟩ = some (.int .u16 x.p.id) ∧ W'.cell? ⟨g6, o6 + k * 10 + 2, none⟩ = some (.bool x.p.df) ∧ W'.cell? ⟨g6, o6 + k * 10 + 3, none⟩ = some (.bool x.p.mf) ∧ W'.cell? ⟨g6, o6 + k * 10 + 4, none⟩ = some (.int .i64 x.p.off) ∧ W'.cell? ⟨g6, o6 + k * 10 + 5, none⟩ = some (.int .u8 x.p.ttl) ∧ W'.cell? ⟨g6, o6 + k * 10 + 6, none⟩ = some (.int .u8 x.p.proto) ∧ W'.cell? ⟨g6, o6 + k * 10 + 7, none⟩ = some (.int .u32 x.p.src) ∧ W'.cell? ⟨g6, o6 + k * 10 + 8, none⟩ = some (.int .u32 x.p.dst) ∧ W'.cell? ⟨g6, o6 + k * 10 + 9, none⟩ = some (.slice x.B x.p.b.length x.c) ∧ W'.cell? ⟨g7, o7 + k * 10, none⟩ = some (.int .u32 x.p.tos) ∧ W'.cell? ⟨g7, o7 + k * 10 + 1, none⟩ = some (.int .u32 x.p.id) ∧ W'.cell? ⟨g7, o7 + k * 10 + 2, none⟩ = some (.bool x.p.df) ∧ W'.cell? ⟨g7, o7 + k * 10 + 3, none⟩ = some (.bool x.p.mf) ∧ W'.cell? ⟨g7, o7 + k * 10 + 4, none⟩ = some (.int .i64 x.p.off) ∧ W'.cell? ⟨g7, o7 + k * 10 + 5, none⟩ = some (.int .u32 x.p.ttl) ∧ W'.cell? ⟨g7, o7 + k * 10 + 6, none⟩ = some (.int .u32 x.p.proto) ∧ W'.cell? ⟨g7, o7 + k * 10 + 7, none⟩ = some (.int .u32 x.p.src) ∧ W'.cell? ⟨g7, o7 + k * 10 + 8, none⟩ = some (.int .u32 x.p.dst) ∧ W'.cell? ⟨g7, o7 + k * 10 + 9, none⟩ = some (.string (txt x.p.b))) W') := Lib.hid (fun W' hW => by
        have a := hX6'.below hW
        have b := hX7'.blk (hW.block g7 (World.block_lt_of_cell? wr _ hX7'.c0))
        exact ⟨a.c0, a.c1, a.c2, a.c3, a.c4, a.c5, a.c6, a.c7, a.c8, a.c9, b.c0, b.c1, b.c2, b.c3, b.c4, b.c5, b.c6, b.c7, b.c8, b.c9⟩)
      have XO1 := Lib.hid (fun W (hW : Below wr.heap.size wr W) => vOf_lit x.p hin x.B x.c W (hrx.below hW))
      have heq := fun W => refIp_eqB x.p x.p W
      simp only [ipB_same] at heq
      have HP6 : Hid (Pv.At w7 g6 (o6 + k * 10) x ∧ g6 < w7.heap.size ∧ ∀ i, ¬ Fo l i g6) := ⟨hX6, hg6l, fun i ⟨j, y, _, hy, e⟩ => hg6n y (List.mem_of_getElem? hy) e⟩
      clear hX6 hX7 hX6' hX7' hown hbx hrx hxp hxm hg6n hx hg6 hg6l hg7 hg7l hF hin hin2
      as_aux_lemma =>
      go_upto_region 11 with fail
      go_region_held_law (fun W' : World => W'.cell? ⟨g6, o6 + k * 10, none⟩ = some (.int .u8 x.p.tos) ∧ W'.cell? ⟨g6, o6 + k * 10 + 1, none⟩ = some (.int .u16 x.p.id) ∧ W'.cell? ⟨g6, o6 + k * 10 + 2, none⟩ = some (.bool x.p.df) ∧ W'.cell? ⟨g6, o6 + k * 10 + 3, none⟩ = some (.bool x.p.mf) ∧ W'.cell? ⟨g6, o6 + k * 10 + 4, none⟩ = some (.int .i64 x.p.off) ∧ W'.cell? ⟨g6, o6 + k * 10 + 5, none⟩ = some (.int .u8 x.p.ttl) ∧ W'.cell? ⟨g6, o6 + k * 10 + 6, none⟩ = some (.int .u8 x.p.proto) ∧ W'.cell? ⟨g6, o6 + k * 10 + 7, none⟩ = some (.int .u32 x.p.src) ∧ W'.cell? ⟨g6, o6 + k * 10 + 8, none⟩ = some (.int .u32 x.p.dst) ∧ W'.cell? ⟨g6, o6 + k * 10 + 9, none⟩ = some (.slice x.B x.p.b.length x.c) ∧ W'.cell? ⟨g7, o7 + k * 10, none⟩ = some (.int .u32 x.p.tos) ∧ W'.cell? ⟨g7, o7 + k * 10 + 1, none⟩ = some (.int .u32 x.p.id) ∧ W'.cell? ⟨g7, o7 + k * 10 + 2, none⟩ = some (.bool x.p.df) ∧ W'.cell? ⟨g7, o7 + k * 10 + 3, none⟩ = some (.bool x.p.mf) ∧ W'.cell? ⟨g7, o7 + k * 10 + 4, none⟩ = some (.int .i64 x.p.off) ∧ W'.cell? ⟨g7, o7 + k * 10 + 5, none⟩ = some (.int .u32 x.p.ttl) ∧ W'.cell? ⟨g7, o7 + k * 10 + 6, none⟩ = some (.int .u32 x.p.proto) ∧ W'.cell? ⟨g7, o7 + k * 10 + 7, none⟩ = some (.int .u32 x.p.src) ∧ W'.cell? ⟨g7, o7 + k * 10 + 8, none⟩ = some (.int .u32 x.p.dst) ∧ W'.cell? ⟨g7, o7 + k * 10 + 9, none⟩ = some (.string (txt x.p.b)))
        (first | exact KS.out _ (below_drewF wr) | exact KS.out _ HQ.out)
        (first
          | (go_at_call 16; (with_reducible refine (XO1.out _ HQ.out).mono ?_); rintro e wm ⟨rfl, hB⟩; (have HQ := Lib.hid (below_to HQ.out hB HQ.out.size)); clear hB)
          | (go_at_call 16; (with_reducible refine (XO1.out _ (below_drewF wr)).mono ?_); rintro e wm ⟨rfl, hB⟩; (have HQ := Lib.hid (below_to (below_drewF wr) hB (below_drewF wr).size)); clear hB))
      all_goals
        clear KS XO1 heq HX6 HX7
        have HV9 := Lib.hid (HV.out.to HQ.out)
        have HB9 := Lib.hid (HBX.out.below HQ.out)
        clear HV HBX HQ
        go_wp2_with fail
        go_loopw [12] (fun s12 wx => ∃ j : Nat, s12 = .int .i64 (j : Int) ∧ j ≤ x.p.b.length ∧ Wv w7 wx (Fo l (k + 1)) ∧ Bo wx x) (fun s12 _ => x.p.b.length - (intOf s12).toNat)
        case atStart => exact ⟨0, rfl, Nat.zero_le _, HV9.out.wide (fun _ ⟨j, y, hj, h⟩ => ⟨j, y, by omega, h⟩), HB9.out⟩
        case round =>
          obtain ⟨j, rfl, hj, hV2, hB2⟩ := hrel
          have HV2 := Lib.hid hV2
          have HB2 := Lib.hid hB2
          have h9 := (HP6.out.1.blk (hV2.block g6 HP6.out.2.1 (HP6.out.2.2 _))).c9
          clear hV2 hB2 q1
          by_cases hjl : j < x.p.b.length
          · have r1 : decide ((j : Int) < (x.p.b.length : Int)) = true := decide_eq_true (by omega)
            obtain ⟨gx, cur, e1, e2, e3, e4⟩ := HB2.out.ex (by omega)
            obtain ⟨vj, hcj⟩ : ∃ v, wr.cell? ⟨gx, j, none⟩ = some v := ⟨cur[j]'(by omega), by rw [cell_of_row _ _ _ _ _ _ e3]; exact Array.getElem?_eq_getElem (by omega)⟩
            have hfj : wr.frozen? ⟨gx, j, none⟩ = false := by simp [World.frozen?, e3]
            have HE2 := Lib.hid e2
            rw [e1] at h9
            clear e1 e2 e3 e4
            go_wp2_with fail
            exact ⟨⟨j + 1, by simp, by omega, HV2.out.set ⟨k, x, by omega, HXK.out, HE2.out⟩ j _, HB2.out.set HE2.out j _⟩, by simp [intOf]; omega⟩
          · have r1 : decide ((j : Int) < (x.p.b.length : Int)) = false := decide_eq_false (by omega)
            go_wp2_with fail
            exact ⟨⟨k + 1, by simp, by omega, HV2.out⟩, by simp [intOf]; omega⟩
    · have q1 : decide ((k : Int) < (l.length : Int)) = false := decide_eq_false (by omega)
      have hF : ∀ j, Fo l k j → w5.heap.size ≤ j := fun j hj => by
        obtain ⟨i, y, _, hy, hyj⟩ := hj
        exact ((P6'.out.own y (List.mem_of_getElem? hy)).lt j hyj).1
      have hR17 := rd_over R5.out P7'.out.base HV.out hF
      have h5 := HX5.out
      have hG7 : w7.heap[G]? = some (.cells #[.int .u8 p.tos, .int .u16 p.id, .bool p.df, .bool p.mf, .int .i64 p.off, .int .u8 p.ttl, .int .u8 p.proto, .int .u32 p.src, .int .u32 p.dst, .slice (some ⟨g5, 0, none⟩) p.few.b.length c5] 42) := M7.out
      have hG17 := (HV.out.block G (Array.getElem?_eq_some_iff.1 hG7).1 (fun h => by have := hF _ h; omega)).trans hG7
      have hX17 : FsAt wr X p.few := (HV.out.block X HQ7.out.lt (fun h => by have := hF _ h; omega)).trans HQ7.out
      have hb7 : Below w.heap.size w w7 := by
        rw [HGe.out]
        exact below_to Bw5.out P7'.out.base (by omega)
      have HBE := Lib.hid (HV.out.base hb7 (fun j hj => by have h1 := hF j hj; have h2 := HGe.out; omega))
      have HLT : Hid (w.heap.size ≤ wr.heap.size) := HBE.out.size
      have KS : Hid (∀ W', Below wr.heap.size wr W' → (fun W' : World => W'.cell? ⟨G, 0, none⟩ = some (.int .u8 p.tos) ∧ W'.cell? ⟨G, 1, none⟩ = some (.int .u16 p.id) ∧ W'.cell? ⟨G, 2, none⟩ = some (.bool p.df) ∧ W'.cell? ⟨G, 3, none⟩ = some (.bool p.mf) ∧ W'.cell? ⟨G, 4, none⟩ = some (.int .i64 p.off) ∧ W'.cell? ⟨G, 5, none⟩ = some (.int .u8 p.ttl) ∧ W'.cell? ⟨G, 6, none⟩ = some (.int .u8 p.proto) ∧ W'.cell? ⟨G, 7, none⟩ = some (.int .u32 p.src) ∧ W'.cell? ⟨G, 8, none⟩ = some (.int .u32 p.dst) ∧ W'.cell? ⟨G, 9, none⟩ = some (.slice (some ⟨g5, 0, none⟩) p.few.b.length c5) ∧ W'.cell? ⟨X, 0, none⟩ = some (.int .u32 p.tos) ∧ W'.cell? ⟨X, 1, none⟩ = some (.int .u32 p.id) ∧ W'.cell? ⟨X, 2, none⟩ = some (.bool p.df) ∧ W'.cell? ⟨X, 3, none⟩ = some (.bool p.mf) ∧ W'.cell? ⟨X, 4, none⟩ = some (.int .i64 p.off) ∧ W'.cell? ⟨X, 5, none⟩ = some (.int .u32 p.ttl) ∧ W'.cell? ⟨X, 6, none⟩ = some (.int .u32 p.proto) ∧ W'.cell? ⟨X, 7, none⟩ = some (.int .u32 p.src) ∧ W'.cell? ⟨X, 8, none⟩ = some (.int .u32 p.dst) ∧ W'.cell? ⟨X, 9, none⟩ = some (.string (txt p.few.b))) W') := Lib.hid (fun W' hW => by
        have a := IpAt.cells (p := p.few) (bv := .slice (some ⟨g5, 0, none⟩) p.few.b.length c5) ((hW.block G (Array.getElem?_eq_some_iff.1 hG17).1).trans hG17)
        have b := (hX17.below hW).cells
        exact ⟨a.1, a.2.1, a.2.2.1, a.2.2.2.1, a.2.2.2.2.1, a.2.2.2.2.2.1, a.2.2.2.2.2.2.1, a.2.2.2.2.2.2.2.1, a.2.2.2.2.2.2.2.2.1, a.2.2.2.2.2.2.2.2.2, b⟩)
      have XO1 : Hid (∀ W, Below wr.heap.size wr W → Calls Tryd.prog 16 #[.agg #[.int .u8 p.tos, .int .u16 p.id, .bool p.df, .bool p.mf, .int .i64 p.off, .int .u8 p.ttl, .int .u8 p.proto, .int .u32 p.src, .int .u32 p.dst, .slice (some ⟨g5, 0, none⟩) p.few.b.length c5]] W fun e w' => e = .returned (.agg #[.int .u32 p.tos, .int .u32 p.id, .bool p.df, .bool p.mf, .int .i64 p.off, .int .u32 p.ttl, .int .u32 p.proto, .int .u32 p.src, .int .u32 p.dst, .string (txt p.few.b)]) ∧ Below W.heap.size W w') := fun W hW => vOf_lit p.few HIN.out (some ⟨g5, 0, none⟩) c5 W (hR17.below hW)
      have heq0 := fun W => refIp_eqB p.few p.few W
      simp only [ipB_same] at heq0
      have heq : ∀ W, (Op.equalIn 10000 45 (.agg #[.int .u32 p.tos, .int .u32 p.id, .bool p.df, .bool p.mf, .int .i64 p.off, .int .u32 p.ttl, .int .u32 p.proto, .int .u32 p.src, .int .u32 p.dst, .string (txt p.few.b)]) (.agg #[.int .u32 p.tos, .int .u32 p.id, .bool p.df, .bool p.mf, .int .i64 p.off, .int .u32 p.ttl, .int .u32 p.proto, .int .u32 p.src, .int .u32 p.dst, .string (txt p.few.b)])).run Tryd.prog W = .ok true W := heq0
      clear hF hR17 h5 hG7 hG17 hX17 hb7 heq0 hin XO
      as_aux_lemma =>
      go_upto_region 17 with fail
      go_region_held_law (fun W' : World => W'.cell? ⟨G, 0, none⟩ = some (.int .u8 p.tos) ∧ W'.cell? ⟨G, 1, none⟩ = some (.int .u16 p.id) ∧ W'.cell? ⟨G, 2, none⟩ = some (.bool p.df) ∧ W'.cell? ⟨G, 3, none⟩ = some (.bool p.mf) ∧ W'.cell? ⟨G, 4, none⟩ = some (.int .i64 p.off) ∧ W'.cell? ⟨G, 5, none⟩ = some (.int .u8 p.ttl) ∧ W'.cell? ⟨G, 6, none⟩ = some (.int .u8 p.proto) ∧ W'.cell? ⟨G, 7, none⟩ = some (.int .u32 p.src) ∧ W'.cell? ⟨G, 8, none⟩ = some (.int .u32 p.dst) ∧ W'.cell? ⟨G, 9, none⟩ = some (.slice (some ⟨g5, 0, none⟩) p.few.b.length c5) ∧ W'.cell? ⟨X, 0, none⟩ = some (.int .u32 p.tos) ∧ W'.cell? ⟨X, 1, none⟩ = some (.int .u32 p.id) ∧ W'.cell? ⟨X, 2, none⟩ = some (.bool p.df) ∧ W'.cell? ⟨X, 3, none⟩ = some (.bool p.mf) ∧ W'.cell? ⟨X, 4, none⟩ = some (.int .i64 p.off) ∧ W'.cell? ⟨X, 5, none⟩ = some (.int .u32 p.ttl) ∧ W'.cell? ⟨X, 6, none⟩ = some (.int .u32 p.proto) ∧ W'.cell? ⟨X, 7, none⟩ = some (.int .u32 p.src) ∧ W'.cell? ⟨X, 8, none⟩ = some (.int .u32 p.dst) ∧ W'.cell? ⟨X, 9, none⟩ = some (.string (txt p.few.b)))
        (first | exact KS.out _ (below_drewF wr) | exact KS.out _ HQ.out)
        (first
          | (go_at_call 16; (with_reducible refine (XO1.out _ HQ.out).mono ?_); rintro e wm ⟨rfl, hB⟩; (have HQ := Lib.hid (below_to HQ.out hB HQ.out.size)); clear hB)
          | (go_at_call 16; (with_reducible refine (XO1.out _ (below_drewF wr)).mono ?_); rintro e wm ⟨rfl, hB⟩; (have HQ := Lib.hid (below_to (below_drewF wr) hB (below_drewF wr).size)); clear hB))
      all_goals
        go_wp2_with fail
        go_ret
        exact ⟨rfl, below_to HBE.out HQ.out HLT.out⟩
end Go.Proofs.YtdmogppkambgaaaDoor
namespace Go.Proofs.YtdmogppkambgaaaDoor
open Go Go.ChangeShapes Go.WideShapes Go.RowKit

/-- The contract. -/
def FragSplitsDoes : Prop := ∀ (p0 : Ip) (A0 : Option Addr) (c0 : Nat) (n1 : Int) (w : World), Hdl w → p0.Fit → Rd w (.slice A0 p0.b.length c0) p0.b → c0 ≤ 9223372036854775807 → -9223372036854775808 ≤ n1 → n1 ≤ 9223372036854775807 → Calls Tryd.prog 4 #[p0.val (.slice A0 p0.b.length c0), .int .i64 n1] w fun e w' => e = .returned (.bool true) ∧ Below w.heap.size w w'

set_option maxRecDepth 100000 in
theorem fragSplits_lifted (hc : FragSplitsDoes) (os : Os) (started : os.Started) (H : Type) (enc : TypeId × Value → H) :
    ReturnsInHanded {} Tryd.checked os 4 .any (fun w args => (Rows.fragSplitsSpec.pre enc Tryd.prog Tryd.f4 [] false w args ∧ laidMetH Tryd.prog laidList w) ∧ sizedMet enc Tryd.prog Tryd.f4 (OpenSpec.ofChange Rows.fragSplitsSpec) false w args)
      (Rows.fragSplitsSpec.post enc Tryd.prog Tryd.f4 false true false false) := by
  refine returnsInHanded_of_change_and (C := Tryd.checked) (X := fun w _ => laidMetH Tryd.prog laidList w) (fun _ _ _ hh h => h.of_heap hh) ownGodebug started (by kernel_rfl) Tryd.func4
    (ChangeSpec.witness_at (enc := enc) (C := Tryd.checked) (os := os) (X := fun w _ => laidMetH Tryd.prog laidList w) false (laidWorld os) #[.agg #[.int .u8 0, .int .u16 0, .bool false, .bool false, .int .i64 0, .int .u8 0, .int .u8 0, .int .u32 0, .int .u32 0, .slice none 0 0], .int .i64 0] 8 rfl (by kernel_rfl) (by kernel_rfl) (by kernel_rfl) (by kernel_rfl) (by kernel_rfl) (laidWorld_met os _)) ?_
  intro W base args ds gs before hval0 hW _ _ hL _
  have hval : ∀ (j : Nat) t v, Tryd.f4.params[j]? = some t → args[j]? = some v → Value.okWide Tryd.prog W .any base t v := hval0
  have hW' := hW
  obtain ⟨p, q, hA0, hV0, rfl, hfz, hnd⟩ := hW
  have hA : DataW.TrodAll enc Tryd.prog W 0 (fun _ => true) true Tryd.f4.params.toList args.toList ds p := hA0
  have hV : DataW.TrodVars enc Tryd.prog W (fun _ => true) [] gs q := hV0
  rw [Tryd.params4] at hA hval
  obtain ⟨v0, vs0, d0, ds0, p0, q0, hargs, rfl, rfl, h0, r0⟩ := trodAll_cons hA
  obtain ⟨v1, vs1, d1, ds1, p1, q1, rfl, rfl, rfl, h1, r1⟩ := trodAll_cons r0
  obtain ⟨rfl, rfl, rfl⟩ := trodAll_nil r1
  obtain rfl : args = #[v0, v1] := by cases args; simpa using hargs
  obtain ⟨rfl, rfl⟩ := trodVars_none hV
  obtain ⟨p0, A0, c0, rfl, b0, e0, a0⟩ := open_ip (hval 0 42 v0 rfl rfl) h0
  obtain ⟨n1, rfl, rfl, rfl, w1⟩ := open_int Tryd.underlying3 (hval 1 3 v1 rfl rfl) h1
  refine (hc p0 A0 c0 n1 W (hdl_of_laid hL) a0 e0 b0 (i64_wf w1).1 (i64_wf w1).2).mono fun e W' ⟨he, hb⟩ => ?_
  subst he
  exact ⟨_, rfl, law_post rfl rfl rfl (by rw [Tryd.params4]; intro t ht; simp at ht; (try rcases ht with rfl | rfl) <;> (try subst ht) <;> exact ⟨by kernel_rfl, by rw [typesSize]; decide⟩) hW' hb⟩
theorem fragSplits_row (hc : FragSplitsDoes) : Rows.FragSplitsSaid :=
  OpenClaim.holds_of_wide 4 Tryd.f4 rfl rfl rfl rfl rfl rfl rfl ⟨rfl, rfl, rfl, rfl, rfl⟩ rfl rfl rfl rfl rfl (by kernel_rfl) Tryd.func4 (by kernel_rfl)
    (of_decide_eq_true (by kernel_rfl)) (by unfold Func.isWrapper; rw [if_neg (of_decide_eq_false (by kernel_rfl))]; exact ⟨rfl, rfl⟩)
    (fun os started H enc _ => fragSplits_lifted hc os started H enc)
theorem fragSplits_card (hrow : Rows.FragSplitsSaid) : Rows.FragSplitsCardSaid :=
  Claim7.holds_tied_plain_at .later [] [.handle] true _ true
    hrow (fun _ h => by cases h) (by kernel_rfl) (fun _ h => by cases h) fragSplits_row_tie rfl ⟨rfl, rfl⟩ (by kernel_rfl) rfl
    (fun f fn hf hfn => by
      obtain rfl : f = 4 := Option.some.inj ((show Tryd.prog.funcNamed "underpass/underpasslaw10.FragSplits" = some 4 by kernel_rfl).symm.trans hf) |>.symm
      obtain rfl : fn = Tryd.f4 := (Option.some.inj (Tryd.func4.symm.trans hfn)).symm
      exact ⟨by kernel_rfl, fun j t ht => by
        rw [Tryd.params4] at ht
        rcases j with _ | _ | j
        · have h3 : t = 42 := by simpa using ht.symm
          subst h3
          exact (show Tryd.prog.wantsStandIn 42 = false by kernel_rfl)
        · have h3 : t = 3 := by simpa using ht.symm
          subst h3
          exact (show Tryd.prog.wantsStandIn 3 = false by kernel_rfl)
        · simp at ht⟩)
    (by kernel_rfl)
end Go.Proofs.YtdmogppkambgaaaDoor
namespace Go.Proofs.YtdmogppkambgaaaDoor
theorem fragSplits_any : FragSplitsDoes := fun p A c m w hg hf hr hc h1 h2 => fragSplits_of fshown_any p A c m w hg hf hc hr h1 h2
theorem fragSplits_holds : Rows.FragSplitsCardSaid := fragSplits_card (fragSplits_row fragSplits_any)
end Go.Proofs.YtdmogppkambgaaaDoor
