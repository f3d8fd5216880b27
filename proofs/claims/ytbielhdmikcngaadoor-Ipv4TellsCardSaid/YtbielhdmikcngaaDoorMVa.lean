/-
  What is proved: the document's Right of layer 5 (underpassref05) by contract.
  Conditions: fewer than 2^40 bytes.
  What is proved: the document's head and Bytes of layer 5 (underpassref05) by contract.
  Conditions: the packet's numbers fit their types; it has few bytes.
-/
import Derived.Test.YtbielhdmikcngaaDoorVBox
import Derived.Test.YtbielhdmikcngaaDoorRNum
namespace Go.Proofs.YtbielhdmikcngaaDoor
open Go.RowKit

theorem empty_list : (⟨#[]⟩ : ByteArray).toList = [] := vtxt_list []
def ipTxt (n : Nat) : ByteArray := if n = 0 then ⟨#[]⟩ else if n = 1 then ⟨#[105, 112, 118, 52, 58, 32, 101, 114, 114, 111, 114, 32, 49]⟩ else ⟨#[105, 112, 118, 52, 58, 32, 101, 114, 114, 111, 114, 32, 55]⟩
set_option maxRecDepth 100000 in
set_option maxHeartbeats 1000000 in
theorem refRight_a (p : Ip) (_hL : p.b.length ≤ 1099511627776) (h0 : p.off < 0) (w : World) :
    Calls Tryd.prog 20 #[.agg #[.int .u32 p.tos, .int .u32 p.id, .bool p.df, .bool p.mf, .int .i64 p.off, .int .u32 p.ttl, .int .u32 p.proto, .int .u32 p.src, .int .u32 p.dst, .string (txt p.b)]] w fun e w' => e = .returned (.string (ipTxt 1)) ∧ Below w.heap.size w w' := by
  have HB := Lib.hid (below_al (Below.refl w.heap.size w) (.cells #[.int .u32 p.tos, .int .u32 p.id, .bool p.df, .bool p.mf, .int .i64 p.off, .int .u32 p.ttl, .int .u32 p.proto, .int .u32 p.src, .int .u32 p.dst, .string (txt p.b)] 34))
  have hz := txt_size p.b
  unfold ipTxt
  clear _hL
  generalize hL' : p.b.length = L at *
  generalize htb : txt p.b = tb at *
  generalize hoff : p.off = o at *
  clear hL' htb hoff
  go_enter Tryd.func20, Tryd.ntmps20
  go_wp2_with fail
  go_ret
  exact ⟨rfl, HB.out⟩
set_option maxRecDepth 100000 in
set_option maxHeartbeats 1000000 in
theorem refRight_b (p : Ip) (_hL : p.b.length ≤ 1099511627776) (h0 : 0 ≤ p.off) (h1 : p.off % 8 ≠ 0) (w : World) :
    Calls Tryd.prog 20 #[.agg #[.int .u32 p.tos, .int .u32 p.id, .bool p.df, .bool p.mf, .int .i64 p.off, .int .u32 p.ttl, .int .u32 p.proto, .int .u32 p.src, .int .u32 p.dst, .string (txt p.b)]] w fun e w' => e = .returned (.string (ipTxt 1)) ∧ Below w.heap.size w w' := by
  have HB := Lib.hid (below_al (Below.refl w.heap.size w) (.cells #[.int .u32 p.tos, .int .u32 p.id, .bool p.df, .bool p.mf, .int .i64 p.off, .int .u32 p.ttl, .int .u32 p.proto, .int .u32 p.src, .int .u32 p.dst, .string (txt p.b)] 34))
  have hz := txt_size p.b
  obtain ⟨r, hr⟩ : ∃ r : Int, p.off % 8 = r := ⟨_, rfl⟩
  have r1 : p.off.tmod 8 = r := by rw [tmod8 _ h0]; exact hr
  have n0 : decide (p.off < 0) = false := decide_eq_false (by omega)
  have rz1 : (r == 0) = false := by simp; omega
  have rz2 : decide (r = 0) = false := decide_eq_false (by omega)
  have rz3 : (r != 0) = true := by simp; omega
  unfold ipTxt
  clear _hL
  generalize hL' : p.b.length = L at *
  generalize htb : txt p.b = tb at *
  generalize hoff : p.off = o at *
  clear hL' htb hoff
  go_enter Tryd.func20, Tryd.ntmps20
  go_wp2_with fail
  go_ret
  exact ⟨rfl, HB.out⟩
set_option maxRecDepth 100000 in
set_option maxHeartbeats 1000000 in
theorem refRight_c (p : Ip) (_hL : p.b.length ≤ 1099511627776) (h0 : 0 ≤ p.off) (h1 : p.off % 8 = 0) (h3 : p.mf = true) (h4 : p.b = []) (w : World) :
    Calls Tryd.prog 20 #[.agg #[.int .u32 p.tos, .int .u32 p.id, .bool p.df, .bool p.mf, .int .i64 p.off, .int .u32 p.ttl, .int .u32 p.proto, .int .u32 p.src, .int .u32 p.dst, .string (txt p.b)]] w fun e w' => e = .returned (.string (ipTxt 1)) ∧ Below w.heap.size w w' := by
  have HB := Lib.hid (below_al (Below.refl w.heap.size w) (.cells #[.int .u32 p.tos, .int .u32 p.id, .bool p.df, .bool p.mf, .int .i64 p.off, .int .u32 p.ttl, .int .u32 p.proto, .int .u32 p.src, .int .u32 p.dst, .string (txt p.b)] 34))
  have hz := txt_size p.b
  rw [h3] at HB ⊢
  obtain ⟨r, hr⟩ : ∃ r : Int, p.off % 8 = r := ⟨_, rfl⟩
  have r1 : p.off.tmod 8 = r := by rw [tmod8 _ h0]; exact hr
  have n0 : decide (p.off < 0) = false := decide_eq_false (by omega)
  have z1 : r = 0 := by omega
  subst z1
  have e0 : ((txt p.b).toList == (⟨#[]⟩ : ByteArray).toList) = true := by rw [vtxt_list, empty_list, h4]; rfl
  have e1 : ((txt p.b).toList == []) = true := by rw [← empty_list]; exact e0
  unfold ipTxt
  clear _hL
  generalize hL' : p.b.length = L at *
  generalize htb : txt p.b = tb at *
  generalize hoff : p.off = o at *
  clear hL' htb hoff
  go_enter Tryd.func20, Tryd.ntmps20
  go_wp2_with fail
  go_ret
  exact ⟨rfl, HB.out⟩
set_option maxRecDepth 100000 in
set_option maxHeartbeats 1000000 in
theorem refRight_d (p : Ip) (_hL : p.b.length ≤ 1099511627776) (h0 : 0 ≤ p.off) (h1 : p.off % 8 = 0) (h3 : p.mf = true) (h4 : 0 < p.b.length) (h5 : p.b.length % 8 ≠ 0) (w : World) :
    Calls Tryd.prog 20 #[.agg #[.int .u32 p.tos, .int .u32 p.id, .bool p.df, .bool p.mf, .int .i64 p.off, .int .u32 p.ttl, .int .u32 p.proto, .int .u32 p.src, .int .u32 p.dst, .string (txt p.b)]] w fun e w' => e = .returned (.string (ipTxt 1)) ∧ Below w.heap.size w w' := by
  have HB := Lib.hid (below_al (Below.refl w.heap.size w) (.cells #[.int .u32 p.tos, .int .u32 p.id, .bool p.df, .bool p.mf, .int .i64 p.off, .int .u32 p.ttl, .int .u32 p.proto, .int .u32 p.src, .int .u32 p.dst, .string (txt p.b)] 34))
  have hz := txt_size p.b
  rw [h3] at HB ⊢
  obtain ⟨r, hr⟩ : ∃ r : Int, p.off % 8 = r := ⟨_, rfl⟩
  have r1 : p.off.tmod 8 = r := by rw [tmod8 _ h0]; exact hr
  have n0 : decide (p.off < 0) = false := decide_eq_false (by omega)
  have z1 : r = 0 := by omega
  subst z1
  obtain ⟨s, hs⟩ : ∃ s : Int, (p.b.length : Int) % 8 = s := ⟨_, rfl⟩
  have s1 : (p.b.length : Int).tmod 8 = s := by rw [tmod8 _ (by omega)]; exact hs
  have e0 : ((txt p.b).toList == (⟨#[]⟩ : ByteArray).toList) = false := by
    rw [vtxt_list, empty_list]
    cases hb : p.b with
    | nil => rw [hb] at h4; simp at h4
    | cons x l => rfl
  have e1 : ((txt p.b).toList == []) = false := by rw [← empty_list]; exact e0
  have sz1 : (s == 0) = false := by simp; omega
  have sz2 : decide (s = 0) = false := decide_eq_false (by omega)
  have sz3 : (s != 0) = true := by simp; omega
  unfold ipTxt
  clear _hL
  generalize hL' : p.b.length = L at *
  generalize htb : txt p.b = tb at *
  generalize hoff : p.off = o at *
  clear hL' htb hoff
  go_enter Tryd.func20, Tryd.ntmps20
  go_wp2_with fail
  go_ret
  exact ⟨rfl, HB.out⟩
set_option maxRecDepth 100000 in
set_option maxHeartbeats 1000000 in
theorem refRight_ef (p : Ip) (_hL : p.b.length ≤ 1099511627776) (h0 : 0 ≤ p.off) (h1 : p.off % 8 = 0) (h3 : p.mf = false) (h6 : 65535 < p.off) (w : World) :
    Calls Tryd.prog 20 #[.agg #[.int .u32 p.tos, .int .u32 p.id, .bool p.df, .bool p.mf, .int .i64 p.off, .int .u32 p.ttl, .int .u32 p.proto, .int .u32 p.src, .int .u32 p.dst, .string (txt p.b)]] w fun e w' => e = .returned (.string (ipTxt 7)) ∧ Below w.heap.size w w' := by
  have HB := Lib.hid (below_al (Below.refl w.heap.size w) (.cells #[.int .u32 p.tos, .int .u32 p.id, .bool p.df, .bool p.mf, .int .i64 p.off, .int .u32 p.ttl, .int .u32 p.proto, .int .u32 p.src, .int .u32 p.dst, .string (txt p.b)] 34))
  have hz := txt_size p.b
  rw [h3] at HB ⊢
  obtain ⟨r, hr⟩ : ∃ r : Int, p.off % 8 = r := ⟨_, rfl⟩
  have r1 : p.off.tmod 8 = r := by rw [tmod8 _ h0]; exact hr
  have n0 : decide (p.off < 0) = false := decide_eq_false (by omega)
  have z1 : r = 0 := by omega
  subst z1
  unfold ipTxt
  clear _hL
  generalize hL' : p.b.length = L at *
  generalize htb : txt p.b = tb at *
  generalize hoff : p.off = o at *
  clear hL' htb hoff
  go_enter Tryd.func20, Tryd.ntmps20
  go_wp2_with fail
  go_ret
  exact ⟨rfl, HB.out⟩
set_option maxRecDepth 100000 in
set_option maxHeartbeats 1000000 in
theorem refRight_ff (p : Ip) (_hL : p.b.length ≤ 1099511627776) (h0 : 0 ≤ p.off) (h1 : p.off % 8 = 0) (h3 : p.mf = false) (h6 : p.off ≤ 65535) (h7 : 65535 < 20 + p.off + (p.b.length : Int)) (w : World) :
    Calls Tryd.prog 20 #[.agg #[.int .u32 p.tos, .int .u32 p.id, .bool p.df, .bool p.mf, .int .i64 p.off, .int .u32 p.ttl, .int .u32 p.proto, .int .u32 p.src, .int .u32 p.dst, .string (txt p.b)]] w fun e w' => e = .returned (.string (ipTxt 7)) ∧ Below w.heap.size w w' := by
  have HB := Lib.hid (below_al (Below.refl w.heap.size w) (.cells #[.int .u32 p.tos, .int .u32 p.id, .bool p.df, .bool p.mf, .int .i64 p.off, .int .u32 p.ttl, .int .u32 p.proto, .int .u32 p.src, .int .u32 p.dst, .string (txt p.b)] 34))
  have hz := txt_size p.b
  rw [h3] at HB ⊢
  obtain ⟨r, hr⟩ : ∃ r : Int, p.off % 8 = r := ⟨_, rfl⟩
  have r1 : p.off.tmod 8 = r := by rw [tmod8 _ h0]; exact hr
  have n0 : decide (p.off < 0) = false := decide_eq_false (by omega)
  have z1 : r = 0 := by omega
  subst z1
  have o1 : decide (65535 < p.off) = false := decide_eq_false (by omega)
  obtain ⟨t, ht⟩ : ∃ t : Int, 20 + p.off + (p.b.length : Int) = t := ⟨_, rfl⟩
  have t0 : 65535 < t := by omega
  have t2 : t ≤ 1099511800000 := by omega
  unfold ipTxt
  clear _hL
  generalize hL' : p.b.length = L at *
  generalize htb : txt p.b = tb at *
  generalize hoff : p.off = o at *
  clear hL' htb hoff
  go_enter Tryd.func20, Tryd.ntmps20
  go_wp2_with fail
  go_ret
  exact ⟨rfl, HB.out⟩
set_option maxRecDepth 100000 in
set_option maxHeartbeats 1000000 in
theorem refRight_gf (p : Ip) (_hL : p.b.length ≤ 1099511627776) (h0 : 0 ≤ p.off) (h1 : p.off % 8 = 0) (h3 : p.mf = false) (h6 : p.off ≤ 65535) (h7 : 20 + p.off + (p.b.length : Int) ≤ 65535) (w : World) :
    Calls Tryd.prog 20 #[.agg #[.int .u32 p.tos, .int .u32 p.id, .bool p.df, .bool p.mf, .int .i64 p.off, .int .u32 p.ttl, .int .u32 p.proto, .int .u32 p.src, .int .u32 p.dst, .string (txt p.b)]] w fun e w' => e = .returned (.string (ipTxt 0)) ∧ Below w.heap.size w w' := by
  have HB := Lib.hid (below_al (Below.refl w.heap.size w) (.cells #[.int .u32 p.tos, .int .u32 p.id, .bool p.df, .bool p.mf, .int .i64 p.off, .int .u32 p.ttl, .int .u32 p.proto, .int .u32 p.src, .int .u32 p.dst, .string (txt p.b)] 34))
  have hz := txt_size p.b
  rw [h3] at HB ⊢
  obtain ⟨r, hr⟩ : ∃ r : Int, p.off % 8 = r := ⟨_, rfl⟩
  have r1 : p.off.tmod 8 = r := by rw [tmod8 _ h0]; exact hr
  have n0 : decide (p.off < 0) = false := decide_eq_false (by omega)
  have z1 : r = 0 := by omega
  subst z1
  have o1 : decide (65535 < p.off) = false := decide_eq_false (by omega)
  obtain ⟨t, ht⟩ : ∃ t : Int, 20 + p.off + (p.b.length : Int) = t := ⟨_, rfl⟩
  have t0 : decide (65535 < t) = false := decide_eq_false (by omega)
  have t1 : 0 ≤ t := by omega
  have t2 : t ≤ 65535 := by omega
  unfold ipTxt
  clear _hL
  generalize hL' : p.b.length = L at *
  generalize htb : txt p.b = tb at *
  generalize hoff : p.off = o at *
  clear hL' htb hoff
  go_enter Tryd.func20, Tryd.ntmps20
  go_wp2_with fail
  go_ret
  exact ⟨rfl, HB.out⟩
set_option maxRecDepth 100000 in
set_option maxHeartbeats 1000000 in
theorem refRight_et (p : Ip) (_hL : p.b.length ≤ 1099511627776) (h0 : 0 ≤ p.off) (h1 : p.off % 8 = 0) (h3 : p.mf = true) (h4 : 0 < p.b.length) (h5 : p.b.length % 8 = 0) (h6 : 65535 < p.off) (w : World) :
    Calls Tryd.prog 20 #[.agg #[.int .u32 p.tos, .int .u32 p.id, .bool p.df, .bool p.mf, .int .i64 p.off, .int .u32 p.ttl, .int .u32 p.proto, .int .u32 p.src, .int .u32 p.dst, .string (txt p.b)]] w fun e w' => e = .returned (.string (ipTxt 7)) ∧ Below w.heap.size w w' := by
  have HB := Lib.hid (below_al (Below.refl w.heap.size w) (.cells #[.int .u32 p.tos, .int .u32 p.id, .bool p.df, .bool p.mf, .int .i64 p.off, .int .u32 p.ttl, .int .u32 p.proto, .int .u32 p.src, .int .u32 p.dst, .string (txt p.b)] 34))
  have hz := txt_size p.b
  rw [h3] at HB ⊢
  obtain ⟨r, hr⟩ : ∃ r : Int, p.off % 8 = r := ⟨_, rfl⟩
  have r1 : p.off.tmod 8 = r := by rw [tmod8 _ h0]; exact hr
  have n0 : decide (p.off < 0) = false := decide_eq_false (by omega)
  have z1 : r = 0 := by omega
  subst z1
  obtain ⟨s, hs⟩ : ∃ s : Int, (p.b.length : Int) % 8 = s := ⟨_, rfl⟩
  have s1 : (p.b.length : Int).tmod 8 = s := by rw [tmod8 _ (by omega)]; exact hs
  have z2 : s = 0 := by omega
  subst z2
  have e0 : ((txt p.b).toList == (⟨#[]⟩ : ByteArray).toList) = false := by
    rw [vtxt_list, empty_list]
    cases hb : p.b with
    | nil => rw [hb] at h4; simp at h4
    | cons x l => rfl
  have e1 : ((txt p.b).toList == []) = false := by rw [← empty_list]; exact e0
  unfold ipTxt
  clear _hL
  generalize hL' : p.b.length = L at *
  generalize htb : txt p.b = tb at *
  generalize hoff : p.off = o at *
  clear hL' htb hoff
  go_enter Tryd.func20, Tryd.ntmps20
  go_wp2_with fail
  go_ret
  exact ⟨rfl, HB.out⟩
set_option maxRecDepth 100000 in
set_option maxHeartbeats 1000000 in
theorem refRight_ft (p : Ip) (_hL : p.b.length ≤ 1099511627776) (h0 : 0 ≤ p.off) (h1 : p.off % 8 = 0) (h3 : p.mf = true) (h4 : 0 < p.b.length) (h5 : p.b.length % 8 = 0) (h6 : p.off ≤ 65535) (h7 : 65535 < 20 + p.off + (p.b.length : Int)) (w : World) :
    Calls Tryd.prog 20 #[.agg #[.int .u32 p.tos, .int .u32 p.id, .bool p.df, .bool p.mf, .int .i64 p.off, .int .u32 p.ttl, .int .u32 p.proto, .int .u32 p.src, .int .u32 p.dst, .string (txt p.b)]] w fun e w' => e = .returned (.string (ipTxt 7)) ∧ Below w.heap.size w w' := by
  have HB := Lib.hid (below_al (Below.refl w.heap.size w) (.cells #[.int .u32 p.tos, .int .u32 p.id, .bool p.df, .bool p.mf, .int .i64 p.off, .int .u32 p.ttl, .int .u32 p.proto, .int .u32 p.src, .int .u32 p.dst, .string (txt p.b)] 34))
  have hz := txt_size p.b
  rw [h3] at HB ⊢
  obtain ⟨r, hr⟩ : ∃ r : Int, p.off % 8 = r := ⟨_, rfl⟩
  have r1 : p.off.tmod 8 = r := by rw [tmod8 _ h0]; exact hr
  have n0 : decide (p.off < 0) = false := decide_eq_false (by omega)
  have z1 : r = 0 := by omega
  subst z1
  obtain ⟨s, hs⟩ : ∃ s : Int, (p.b.length : Int) % 8 = s := ⟨_, rfl⟩
  have s1 : (p.b.length : Int).tmod 8 = s := by rw [tmod8 _ (by omega)]; exact hs
  have z2 : s = 0 := by omega
  subst z2
  have e0 : ((txt p.b).toList == (⟨#[]⟩ : ByteArray).toList) = false := by
    rw [vtxt_list, empty_list]
    cases hb : p.b with
    | nil => rw [hb] at h4; simp at h4
    | cons x l => rfl
  have e1 : ((txt p.b).toList == []) = false := by rw [← empty_list]; exact e0
  have o1 : decide (65535 < p.off) = false := decide_eq_false (by omega)
  obtain ⟨t, ht⟩ : ∃ t : Int, 20 + p.off + (p.b.length : Int) = t := ⟨_, rfl⟩
  have t0 : 65535 < t := by omega
  have t2 : t ≤ 1099511800000 := by omega
  unfold ipTxt
  clear _hL
  generalize hL' : p.b.length = L at *
  generalize htb : txt p.b = tb at *
  generalize hoff : p.off = o at *
  clear hL' htb hoff
  go_enter Tryd.func20, Tryd.ntmps20
  go_wp2_with fail
  go_ret
  exact ⟨rfl, HB.out⟩
set_option maxRecDepth 100000 in
set_option maxHeartbeats 1000000 in
theorem refRight_gt (p : Ip) (_hL : p.b.length ≤ 1099511627776) (h0 : 0 ≤ p.off) (h1 : p.off % 8 = 0) (h3 : p.mf = true) (h4 : 0 < p.b.length) (h5 : p.b.length % 8 = 0) (h6 : p.off ≤ 65535) (h7 : 20 + p.off + (p.b.length : Int) ≤ 65535) (w : World) :
    Calls Tryd.prog 20 #[.agg #[.int .u32 p.tos, .int .u32 p.id, .bool p.df, .bool p.mf, .int .i64 p.off, .int .u32 p.ttl, .int .u32 p.proto, .int .u32 p.src, .int .u32 p.dst, .string (txt p.b)]] w fun e w' => e = .returned (.string (ipTxt 0)) ∧ Below w.heap.size w w' := by
  have HB := Lib.hid (below_al (Below.refl w.heap.size w) (.cells #[.int .u32 p.tos, .int .u32 p.id, .bool p.df, .bool p.mf, .int .i64 p.off, .int .u32 p.ttl, .int .u32 p.proto, .int .u32 p.src, .int .u32 p.dst, .string (txt p.b)] 34))
  have hz := txt_size p.b
  rw [h3] at HB ⊢
  obtain ⟨r, hr⟩ : ∃ r : Int, p.off % 8 = r := ⟨_, rfl⟩
  have r1 : p.off.tmod 8 = r := by rw [tmod8 _ h0]; exact hr
  have n0 : decide (p.off < 0) = false := decide_eq_false (by omega)
  have z1 : r = 0 := by omega
  subst z1
  obtain ⟨s, hs⟩ : ∃ s : Int, (p.b.length : Int) % 8 = s := ⟨_, rfl⟩
  have s1 : (p.b.length : Int).tmod 8 = s := by rw [tmod8 _ (by omega)]; exact hs
  have z2 : s = 0 := by omega
  subst z2
  have e0 : ((txt p.b).toList == (⟨#[]⟩ : ByteArray).toList) = false := by
    rw [vtxt_list, empty_list]
    cases hb : p.b with
    | nil => rw [hb] at h4; simp at h4
    | cons x l => rfl
  have e1 : ((txt p.b).toList == []) = false := by rw [← empty_list]; exact e0
  have o1 : decide (65535 < p.off) = false := decide_eq_false (by omega)
  obtain ⟨t, ht⟩ : ∃ t : Int, 20 + p.off + (p.b.length : Int) = t := ⟨_, rfl⟩
  have t0 : decide (65535 < t) = false := decide_eq_false (by omega)
  have t1 : 0 ≤ t := by omega
  have t2 : t ≤ 65535 := by omega
  unfold ipTxt
  clear _hL
  generalize hL' : p.b.length = L at *
  generalize htb : txt p.b = tb at *
  generalize hoff : p.off = o at *
  clear hL' htb hoff
  go_enter Tryd.func20, Tryd.ntmps20
  go_wp2_with fail
  go_ret
  exact ⟨rfl, HB.out⟩
theorem refRight_any (p : Ip) (hL : p.b.length ≤ 1099511627776) (w : World) :
    Calls Tryd.prog 20 #[.agg #[.int .u32 p.tos, .int .u32 p.id, .bool p.df, .bool p.mf, .int .i64 p.off, .int .u32 p.ttl, .int .u32 p.proto, .int .u32 p.src, .int .u32 p.dst, .string (txt p.b)]] w fun e w' => e = .returned (.string (ipTxt p.bad)) ∧ Below w.heap.size w w' := by
  by_cases h0 : p.off < 0
  · have hb : p.bad = 1 := by unfold Ip.bad Ip.arg; simp [h0]
    rw [hb]
    exact refRight_a p hL h0 w
  · have h0' : 0 ≤ p.off := by omega
    by_cases h1 : p.off % 8 = 0
    · have key : (p.mf = false ∨ (0 < p.b.length ∧ p.b.length % 8 = 0)) → p.bad = if 65515 - (p.b.length : Int) < p.off then 7 else 0 := fun h => bad_rest p h0' h1 (by
        rcases h with h | ⟨h2, h3⟩
        · exact .inl h
        · exact .inr (by simp [h2, h3]))
      have arg1 : (p.mf = true ∧ ¬ (0 < p.b.length ∧ p.b.length % 8 = 0)) → p.bad = 1 := fun ⟨h2, h3⟩ => by
        have : p.arg = true := by
          unfold Ip.arg
          rw [h2]
          have : (decide (0 < p.b.length) && decide (p.b.length % 8 = 0)) = false := by
            rw [← Bool.not_eq_true, Bool.and_eq_true, decide_eq_true_eq, decide_eq_true_eq]
            exact h3
          rw [this]
          simp
        unfold Ip.bad
        rw [if_pos this]
      by_cases hm : p.mf = false
      · rw [key (.inl hm)]
        by_cases h6 : 65535 < p.off
        · rw [if_pos (by omega)]
          exact refRight_ef p hL h0' h1 hm h6 w
        · by_cases h7 : 65535 < 20 + p.off + (p.b.length : Int)
          · rw [if_pos (by omega)]
            exact refRight_ff p hL h0' h1 hm (by omega) h7 w
          · rw [if_neg (by omega)]
            exact refRight_gf p hL h0' h1 hm (by omega) (by omega) w
      · have hm : p.mf = true := by simpa using hm
        by_cases h4 : p.b = []
        · rw [arg1 ⟨hm, by rw [h4]; simp⟩]
          exact refRight_c p hL h0' h1 hm h4 w
        · have h4' : 0 < p.b.length := List.length_pos_iff.2 h4
          by_cases h5 : p.b.length % 8 = 0
          · rw [key (.inr ⟨h4', h5⟩)]
            by_cases h6 : 65535 < p.off
            · rw [if_pos (by omega)]
              exact refRight_et p hL h0' h1 hm h4' h5 h6 w
            · by_cases h7 : 65535 < 20 + p.off + (p.b.length : Int)
              · rw [if_pos (by omega)]
                exact refRight_ft p hL h0' h1 hm h4' h5 (by omega) h7 w
              · rw [if_neg (by omega)]
                exact refRight_gt p hL h0' h1 hm h4' h5 (by omega) (by omega) w
          · rw [arg1 ⟨hm, fun h => h5 h.2⟩]
            exact refRight_d p hL h0' h1 hm h4' h5 w
    · have hb : p.bad = 1 := by unfold Ip.bad Ip.arg; simp [h1]
      rw [hb]
      exact refRight_b p hL h0' h1 w
end Go.Proofs.YtbielhdmikcngaaDoor
namespace Go.Proofs.YtbielhdmikcngaaDoor
open Go.RowKit

set_option maxRecDepth 100000 in
set_option maxHeartbeats 1000000 in
theorem vText1 (n : Nat) (w : World) (hn : n < 4294967296) :
    Calls Tryd.prog 41 #[.int .u32 n, .int .i64 1] w fun e w' => e = .returned (.string (txt ([UInt8.ofNat n]))) ∧ Below w.heap.size w w' := by
  have c0 := convert_byte w (UInt8.ofNat n) ((n : Int) % 256) (by rw [ofNat_lt]; omega)
  have z0 : (txt [UInt8.ofNat n]).size = 1 := txt_size _
  have HX : Hid ((txt [UInt8.ofNat n] ++ ⟨#[]⟩) = txt ([UInt8.ofNat n])) := by
    show _ = _
    rw [show (⟨#[]⟩ : ByteArray) = txt [] from rfl]
    simp only [txt_append]
    rfl
  go_enter Tryd.func41, Tryd.ntmps41
  go_wp2_with fail
  refine wp_loop_rounds 2 ?_
  rw [rounds_succ]
  go_wp2_with fail
  rw [rounds_succ]
  go_wp2_with fail
  go_ret
  exact ⟨by rw [← HX.out]; rfl, ((Below.refl _ _).alloc (Nat.le_refl _) _)⟩
theorem ibelow_on' {n : Nat} {w a b : World} (h : Below n w a ∧ n ≤ a.heap.size) (k : Below a.heap.size a b) : Below n w b := below_to h.1 k h.2
/-- The box of the document's packet. -/
def RfAt (W : World) (g : Nat) (p : Ip) : Prop := W.heap[g]? = some (.cells #[.int .u32 p.tos, .int .u32 p.id, .bool p.df, .bool p.mf, .int .i64 p.off, .int .u32 p.ttl, .int .u32 p.proto, .int .u32 p.src, .int .u32 p.dst, .string (txt p.b)] 34)
theorem RfAt.below {W W' : World} {g : Nat} {p : Ip} (h : RfAt W g p) (hb : Below W.heap.size W W') : RfAt W' g p := be_block hb h
theorem RfAt.cells {W : World} {g : Nat} {p : Ip} (h : RfAt W g p) :
    W.cell? ⟨g, 0, none⟩ = some (.int .u32 p.tos) ∧ W.cell? ⟨g, 1, none⟩ = some (.int .u32 p.id) ∧ W.cell? ⟨g, 2, none⟩ = some (.bool p.df) ∧ W.cell? ⟨g, 3, none⟩ = some (.bool p.mf) ∧ W.cell? ⟨g, 4, none⟩ = some (.int .i64 p.off) ∧
    W.cell? ⟨g, 5, none⟩ = some (.int .u32 p.ttl) ∧ W.cell? ⟨g, 6, none⟩ = some (.int .u32 p.proto) ∧ W.cell? ⟨g, 7, none⟩ = some (.int .u32 p.src) ∧ W.cell? ⟨g, 8, none⟩ = some (.int .u32 p.dst) ∧ W.cell? ⟨g, 9, none⟩ = some (.string (txt p.b)) := cells10 h
set_option maxRecDepth 100000 in
set_option maxHeartbeats 4000000 in
theorem refHead_ff (p : Ip) (hp : p.Own) (hn : p.bad = 0) (hd : p.df = false) (hm : p.mf = false) (c : Nat) (hc : c < 65536) (w : World) :
    Calls Tryd.prog 25 #[.agg #[.int .u32 p.tos, .int .u32 p.id, .bool p.df, .bool p.mf, .int .i64 p.off, .int .u32 p.ttl, .int .u32 p.proto, .int .u32 p.src, .int .u32 p.dst, .string (txt p.b)], .int .u32 (c : Int)] w fun e w' => e = .returned (.string (txt (p.hd c).bs)) ∧ Below w.heap.size w w' := by
  have hin := hp.inn
  have hfew := hp.few
  obtain ⟨z1, z2, z3, _⟩ := bad_zero hn
  have hx : RfAt (w.alloc (.cells #[.int .u32 p.tos, .int .u32 p.id, .bool p.df, .bool p.mf, .int .i64 p.off, .int .u32 p.ttl, .int .u32 p.proto, .int .u32 p.src, .int .u32 p.dst, .string (txt p.b)] 34)) w.heap.size p := heap_alloc_new w _
  have hb0 := below_al (Below.refl w.heap.size w) (.cells #[.int .u32 p.tos, .int .u32 p.id, .bool p.df, .bool p.mf, .int .i64 p.off, .int .u32 p.ttl, .int .u32 p.proto, .int .u32 p.src, .int .u32 p.dst, .string (txt p.b)] 34)
  have HB := Lib.hid (And.intro hb0 hb0.size)
  clear hb0
  have hbits : p.bits = 0 + (p.off / 8).toNat := by unfold Ip.bits Ip.fl; rw [hd, hm]; simp
  obtain ⟨k, hk⟩ : ∃ k : Nat, (p.off / 8).toNat = k := ⟨_, rfl⟩
  have k1 : p.off.tdiv 8 = (k : Int) := by rw [Int.tdiv_eq_ediv_of_nonneg (by omega)]; omega
  have k2 : p.off / 8 = (k : Int) := by omega
  have k3 : (k : Int) < 8192 := by omega
  have k4 : IntKind.u32.wrap (k : Int) = (k : Int) := u32_fitsN k (by omega)
  obtain ⟨B, hB⟩ : ∃ B : Int, (p.bits : Int) = B := ⟨_, rfl⟩
  have k5 : (k : Int) = B := by omega
  obtain ⟨M, hM⟩ : ∃ M : Nat, 20 + p.b.length = M := ⟨_, rfl⟩
  have m1 : 20 + (p.b.length : Int) = (M : Int) := by omega
  have m2 : (M : Int) ≤ 3020 := by omega
  have m3 : IntKind.u32.wrap (M : Int) = (M : Int) := u32_fitsN M (by omega)
  have m4 : (p.b.length : Int) ≤ 3000 := by omega
  have m5 : IntKind.i64.wrap (M : Int) = (M : Int) := i64_wrapI _ (by omega) (by omega)
  have hz := txt_size p.b
  have HT1 : Hid (∀ W : World, _) := fun W => vText1 p.tos W (by have := hin.tos; omega)
  have HT2 : Hid (∀ W : World, _) := fun W => refText2 M W (by omega)
  have HT3 : Hid (∀ W : World, _) := fun W => refText2 p.id W (by have := hin.id; omega)
  have HT4 : Hid (∀ W : World, Calls Tryd.prog 41 #[.int .u32 B, .int .i64 2] W fun e w' => e = .returned (.string (txt (be2 p.bits))) ∧ Below W.heap.size W w') := fun W => by rw [← hB]; exact refText2 p.bits W (by omega)
  have HT5 : Hid (∀ W : World, _) := fun W => vText1 p.ttl W (by have := hin.ttl; omega)
  have HT6 : Hid (∀ W : World, _) := fun W => vText1 p.proto W (by have := hin.proto; omega)
  have HT7 : Hid (∀ W : World, _) := fun W => refText2 c W (by omega)
  have HT8 : Hid (∀ W : World, _) := fun W => refText4 p.src W hin.src
  have HT9 : Hid (∀ W : World, _) := fun W => refText4 p.dst W hin.dst
  have hf : (txt [69]) = ⟨#[69]⟩ := rfl
  have a1 : txt [69] ++ txt ([UInt8.ofNat p.tos]) = txt ([69] ++ [UInt8.ofNat p.tos]) := txt_append _ _
  have b1 : (txt ([UInt8.ofNat p.tos])).size = 1 := txt_size _
  have g1 : (txt ([69] ++ [UInt8.ofNat p.tos])).size = 2 := txt_size _
  have a2 : txt ([69] ++ [UInt8.ofNat p.tos]) ++ txt (be2 (M)) = txt (([69] ++ [UInt8.ofNat p.tos]) ++ be2 (M)) := txt_append _ _
  have b2 : (txt (be2 (M))).size = 2 := txt_size _
  have g2 : (txt (([69] ++ [UInt8.ofNat p.tos]) ++ be2 (M))).size = 4 := txt_size _
  have a3 : txt (([69] ++ [UInt8.ofNat p.tos]) ++ be2 (M)) ++ txt (be2 p.id) = txt ((([69] ++ [UInt8.ofNat p.tos]) ++ be2 (M)) ++ be2 p.id) := txt_append _ _
  have b3 : (txt (be2 p.id)).size = 2 := txt_size _
  have g3 : (txt ((([69] ++ [UInt8.ofNat p.tos]) ++ be2 (M)) ++ be2 p.id)).size = 6 := txt_size _
  have a4 : txt ((([69] ++ [UInt8.ofNat p.tos]) ++ be2 (M)) ++ be2 p.id) ++ txt (be2 p.bits) = txt (((([69] ++ [UInt8.ofNat p.tos]) ++ be2 (M)) ++ be2 p.id) ++ be2 p.bits) := txt_append _ _
  have b4 : (txt (be2 p.bits)).size = 2 := txt_size _
  have g4 : (txt (((([69] ++ [UInt8.ofNat p.tos]) ++ be2 (M)) ++ be2 p.id) ++ be2 p.bits)).size = 8 := txt_size _
  have a5 : txt (((([69] ++ [UInt8.ofNat p.tos]) ++ be2 (M)) ++ be2 p.id) ++ be2 p.bits) ++ txt ([UInt8.ofNat p.ttl]) = txt ((((([69] ++ [UInt8.ofNat p.tos]) ++ be2 (M)) ++ be2 p.id) ++ be2 p.bits) ++ [UInt8.ofNat p.ttl]) := txt_append _ _
  have b5 : (txt ([UInt8.ofNat p.ttl])).size = 1 := txt_size _
  have g5 : (txt ((((([69] ++ [UInt8.ofNat p.tos]) ++ be2 (M)) ++ be2 p.id) ++ be2 p.bits) ++ [UInt8.ofNat p.ttl])).size = 9 := txt_size _
  have a6 : txt ((((([69] ++ [UInt8.ofNat p.tos]) ++ be2 (M)) ++ be2 p.id) ++ be2 p.bits) ++ [UInt8.ofNat p.ttl]) ++ txt ([UInt8.ofNat p.proto]) = txt (((((([69] ++ [UInt8.ofNat p.tos]) ++ be2 (M)) ++ be2 p.id) ++ be2 p.bits) ++ [UInt8.ofNat p.ttl]) ++ [UInt8.ofNat p.proto]) := txt_append _ _
  have b6 : (txt ([UInt8.ofNat p.proto])).size = 1 := txt_size _
  have g6 : (txt (((((([69] ++ [UInt8.ofNat p.tos]) ++ be2 (M)) ++ be2 p.id) ++ be2 p.bits) ++ [UInt8.ofNat p.ttl]) ++ [UInt8.ofNat p.proto])).size = 10 := txt_size _
  have a7 : txt (((((([69] ++ [UInt8.ofNat p.tos]) ++ be2 (M)) ++ be2 p.id) ++ be2 p.bits) ++ [UInt8.ofNat p.ttl]) ++ [UInt8.ofNat p.proto]) ++ txt (be2 c) = txt ((((((([69] ++ [UInt8.ofNat p.tos]) ++ be2 (M)) ++ be2 p.id) ++ be2 p.bits) ++ [UInt8.ofNat p.ttl]) ++ [UInt8.ofNat p.proto]) ++ be2 c) := txt_append _ _
  have b7 : (txt (be2 c)).size = 2 := txt_size _
  have g7 : (txt ((((((([69] ++ [UInt8.ofNat p.tos]) ++ be2 (M)) ++ be2 p.id) ++ be2 p.bits) ++ [UInt8.ofNat p.ttl]) ++ [UInt8.ofNat p.proto]) ++ be2 c)).size = 12 := txt_size _
  have a8 : txt ((((((([69] ++ [UInt8.ofNat p.tos]) ++ be2 (M)) ++ be2 p.id) ++ be2 p.bits) ++ [UInt8.ofNat p.ttl]) ++ [UInt8.ofNat p.proto]) ++ be2 c) ++ txt (be4 p.src) = txt (((((((([69] ++ [UInt8.ofNat p.tos]) ++ be2 (M)) ++ be2 p.id) ++ be2 p.bits) ++ [UInt8.ofNat p.ttl]) ++ [UInt8.ofNat p.proto]) ++ be2 c) ++ be4 p.src) := txt_append _ _
  have b8 : (txt (be4 p.src)).size = 4 := txt_size _
  have g8 : (txt (((((((([69] ++ [UInt8.ofNat p.tos]) ++ be2 (M)) ++ be2 p.id) ++ be2 p.bits) ++ [UInt8.ofNat p.ttl]) ++ [UInt8.ofNat p.proto]) ++ be2 c) ++ be4 p.src)).size = 16 := txt_size _
  have a9 : txt (((((((([69] ++ [UInt8.ofNat p.tos]) ++ be2 (M)) ++ be2 p.id) ++ be2 p.bits) ++ [UInt8.ofNat p.ttl]) ++ [UInt8.ofNat p.proto]) ++ be2 c) ++ be4 p.src) ++ txt (be4 p.dst) = txt ((((((((([69] ++ [UInt8.ofNat p.tos]) ++ be2 (M)) ++ be2 p.id) ++ be2 p.bits) ++ [UInt8.ofNat p.ttl]) ++ [UInt8.ofNat p.proto]) ++ be2 c) ++ be4 p.src) ++ be4 p.dst) := txt_append _ _
  have b9 : (txt (be4 p.dst)).size = 4 := txt_size _
  have g9 : (txt ((((((((([69] ++ [UInt8.ofNat p.tos]) ++ be2 (M)) ++ be2 p.id) ++ be2 p.bits) ++ [UInt8.ofNat p.ttl]) ++ [UInt8.ofNat p.proto]) ++ be2 c) ++ be4 p.src) ++ be4 p.dst)).size = 20 := txt_size _
  have hall : txt (p.hd c).bs = txt ((((((((([69] ++ [UInt8.ofNat p.tos]) ++ be2 (M)) ++ be2 p.id) ++ be2 p.bits) ++ [UInt8.ofNat p.ttl]) ++ [UInt8.ofNat p.proto]) ++ be2 c) ++ be4 p.src) ++ be4 p.dst) := by rw [← hM]; rfl
  rw [hf] at a1
  rw [hall]
  clear hf hall hk hbits hn hp hin hc z1 z2 z3 hM
  generalize txt ((((((((([69] ++ [UInt8.ofNat p.tos]) ++ be2 (M)) ++ be2 p.id) ++ be2 p.bits) ++ [UInt8.ofNat p.ttl]) ++ [UInt8.ofNat p.proto]) ++ be2 c) ++ be4 p.src) ++ be4 p.dst) = S9 at *
  generalize txt (((((((([69] ++ [UInt8.ofNat p.tos]) ++ be2 (M)) ++ be2 p.id) ++ be2 p.bits) ++ [UInt8.ofNat p.ttl]) ++ [UInt8.ofNat p.proto]) ++ be2 c) ++ be4 p.src) = S8 at *
  generalize txt ((((((([69] ++ [UInt8.ofNat p.tos]) ++ be2 (M)) ++ be2 p.id) ++ be2 p.bits) ++ [UInt8.ofNat p.ttl]) ++ [UInt8.ofNat p.proto]) ++ be2 c) = S7 at *
  generalize txt (((((([69] ++ [UInt8.ofNat p.tos]) ++ be2 (M)) ++ be2 p.id) ++ be2 p.bits) ++ [UInt8.ofNat p.ttl]) ++ [UInt8.ofNat p.proto]) = S6 at *
  generalize txt ((((([69] ++ [UInt8.ofNat p.tos]) ++ be2 (M)) ++ be2 p.id) ++ be2 p.bits) ++ [UInt8.ofNat p.ttl]) = S5 at *
  generalize txt (((([69] ++ [UInt8.ofNat p.tos]) ++ be2 (M)) ++ be2 p.id) ++ be2 p.bits) = S4 at *
  generalize txt ((([69] ++ [UInt8.ofNat p.tos]) ++ be2 (M)) ++ be2 p.id) = S3 at *
  generalize txt (([69] ++ [UInt8.ofNat p.tos]) ++ be2 (M)) = S2 at *
  generalize txt ([69] ++ [UInt8.ofNat p.tos]) = S1 at *
  generalize txt ([UInt8.ofNat p.tos]) = T1 at *
  generalize txt (be2 (M)) = T2 at *
  generalize txt (be2 p.id) = T3 at *
  generalize txt (be2 p.bits) = T4 at *
  generalize txt ([UInt8.ofNat p.ttl]) = T5 at *
  generalize txt ([UInt8.ofNat p.proto]) = T6 at *
  generalize txt (be2 c) = T7 at *
  generalize txt (be4 p.src) = T8 at *
  generalize txt (be4 p.dst) = T9 at *
  have HX := Lib.hid hx
  have HD := Lib.hid hd
  have HM := Lib.hid hm
  clear hx hd hm hB
  generalize hp1 : p.b.length = L at *
  generalize hp2 : txt p.b = tb at *
  go_enter Tryd.func25, Tryd.ntmps25
  go_upto_region 1 with fail
  generalize w.alloc (.cells #[.int .u32 p.tos, .int .u32 p.id, .bool p.df, .bool p.mf, .int .i64 p.off, .int .u32 p.ttl, .int .u32 p.proto, .int .u32 p.src, .int .u32 p.dst, .string (tb)] 34) = W0 at *
  generalize hnn : w.heap.size = n at *
  have HNN := Lib.hid hnn
  clear hnn
  have KS : Hid (∀ W, Below W0.heap.size W0 W → (W.cell? ⟨n, 0, none⟩ = some (.int .u32 p.tos) ∧ W.cell? ⟨n, 1, none⟩ = some (.int .u32 p.id) ∧ W.cell? ⟨n, 9, none⟩ = some (.string tb)) ∧ W.cell? ⟨n, 5, none⟩ = some (.int .u32 p.ttl) ∧ W.cell? ⟨n, 6, none⟩ = some (.int .u32 p.proto) ∧ W.cell? ⟨n, 7, none⟩ = some (.int .u32 p.src) ∧ W.cell? ⟨n, 8, none⟩ = some (.int .u32 p.dst)) := fun W h => by
    obtain ⟨e0, e1, e2, e3, e4, e5, e6, e7, e8, e9⟩ := (HX.out.below h).cells
    rw [hp2] at e9
    exact ⟨⟨e0, e1, e9⟩, e5, e6, e7, e8⟩
  obtain ⟨c0, c1, c2, c3, c4, c5, c6, c7, c8, c9⟩ := HX.out.cells
  rw [HD.out] at c2
  rw [HM.out] at c3
  clear HX hp1 hp2 c0 c1 c5 c6 c7 c8 c9
  go_upto_region 6 with fail
  clear c2 c3 c4 k1 k2 k4
  go_region_held_law (fun W => W.cell? ⟨n, 0, none⟩ = some (.int .u32 p.tos) ∧ W.cell? ⟨n, 1, none⟩ = some (.int .u32 p.id) ∧ W.cell? ⟨n, 9, none⟩ = some (.string tb))
    (first | assumption | exact (KS.out _ HL4.out).1 | exact (KS.out _ HL3.out).1 | exact (KS.out _ HL2.out).1 | exact (KS.out _ HL1.out).1 | exact (KS.out _ (below_drew W0)).1)
    (first
      | (go_at_call 41; (with_reducible refine (HT1.out _).mono ?_); rintro e w2 ⟨rfl, hl⟩; (have HL1 := Lib.hid ((below_drew W0).trans hl)); clear hl)
      | (go_at_call 41; (with_reducible refine (HT2.out _).mono ?_); rintro e w3 ⟨rfl, hl⟩; (have HL2 := Lib.hid (below_to HL1.out hl HL1.out.size)); clear hl)
      | (go_at_call 41; (with_reducible refine (HT3.out _).mono ?_); rintro e w4 ⟨rfl, hl⟩; (have HL3 := Lib.hid (below_to HL2.out hl HL2.out.size)); clear hl)
      | (go_at_call 41; (with_reducible refine (HT4.out _).mono ?_); rintro e w5 ⟨rfl, hl⟩; (have HL4 := Lib.hid (below_to HL3.out hl HL3.out.size)); clear hl))
  go_upto_region 7 with fail
  go_region_held_law (fun W => W.cell? ⟨n, 5, none⟩ = some (.int .u32 p.ttl) ∧ W.cell? ⟨n, 6, none⟩ = some (.int .u32 p.proto) ∧ W.cell? ⟨n, 7, none⟩ = some (.int .u32 p.src) ∧ W.cell? ⟨n, 8, none⟩ = some (.int .u32 p.dst))
    (first | assumption | exact (KS.out _ HL9.out).2 | exact (KS.out _ HL8.out).2 | exact (KS.out _ HL7.out).2 | exact (KS.out _ HL6.out).2 | exact (KS.out _ HL5.out).2 | exact (KS.out _ (below_to HL4.out (below_drew w5) HL4.out.size)).2)
    (first
      | (go_at_call 41; (with_reducible refine (HT5.out _).mono ?_); rintro e w6 ⟨rfl, hl⟩; (have HL5 := Lib.hid (below_to HL4.out ((below_drew w5).trans hl) HL4.out.size)); clear hl)
      | (go_at_call 41; (with_reducible refine (HT6.out _).mono ?_); rintro e w7 ⟨rfl, hl⟩; (have HL6 := Lib.hid (below_to HL5.out hl HL5.out.size)); clear hl)
      | (go_at_call 41; (with_reducible refine (HT7.out _).mono ?_); rintro e w8 ⟨rfl, hl⟩; (have HL7 := Lib.hid (below_to HL6.out hl HL6.out.size)); clear hl)
      | (go_at_call 41; (with_reducible refine (HT8.out _).mono ?_); rintro e w9 ⟨rfl, hl⟩; (have HL8 := Lib.hid (below_to HL7.out hl HL7.out.size)); clear hl)
      | (go_at_call 41; (with_reducible refine (HT9.out _).mono ?_); rintro e w10 ⟨rfl, hl⟩; (have HL9 := Lib.hid (below_to HL8.out hl HL8.out.size)); clear hl))
  go_wp2_with fail
  go_ret
  exact ⟨rfl, by rw [HNN.out]; exact ibelow_on' HB.out HL9.out⟩
set_option maxRecDepth 100000 in
set_option maxHeartbeats 4000000 in
theorem refHead_ft (p : Ip) (hp : p.Own) (hn : p.bad = 0) (hd : p.df = false) (hm : p.mf = true) (c : Nat) (hc : c < 65536) (w : World) :
    Calls Tryd.prog 25 #[.agg #[.int .u32 p.tos, .int .u32 p.id, .bool p.df, .bool p.mf, .int .i64 p.off, .int .u32 p.ttl, .int .u32 p.proto, .int .u32 p.src, .int .u32 p.dst, .string (txt p.b)], .int .u32 (c : Int)] w fun e w' => e = .returned (.string (txt (p.hd c).bs)) ∧ Below w.heap.size w w' := by
  have hin := hp.inn
  have hfew := hp.few
  obtain ⟨z1, z2, z3, _⟩ := bad_zero hn
  have hx : RfAt (w.alloc (.cells #[.int .u32 p.tos, .int .u32 p.id, .bool p.df, .bool p.mf, .int .i64 p.off, .int .u32 p.ttl, .int .u32 p.proto, .int .u32 p.src, .int .u32 p.dst, .string (txt p.b)] 34)) w.heap.size p := heap_alloc_new w _
  have hb0 := below_al (Below.refl w.heap.size w) (.cells #[.int .u32 p.tos, .int .u32 p.id, .bool p.df, .bool p.mf, .int .i64 p.off, .int .u32 p.ttl, .int .u32 p.proto, .int .u32 p.src, .int .u32 p.dst, .string (txt p.b)] 34)
  have HB := Lib.hid (And.intro hb0 hb0.size)
  clear hb0
  have hbits : p.bits = 8192 + (p.off / 8).toNat := by unfold Ip.bits Ip.fl; rw [hd, hm]; simp
  obtain ⟨k, hk⟩ : ∃ k : Nat, (p.off / 8).toNat = k := ⟨_, rfl⟩
  have k1 : p.off.tdiv 8 = (k : Int) := by rw [Int.tdiv_eq_ediv_of_nonneg (by omega)]; omega
  have k2 : p.off / 8 = (k : Int) := by omega
  have k3 : (k : Int) < 8192 := by omega
  have k4 : IntKind.u32.wrap (k : Int) = (k : Int) := u32_fitsN k (by omega)
  obtain ⟨B, hB⟩ : ∃ B : Int, (p.bits : Int) = B := ⟨_, rfl⟩
  have k5 : (k : Int) + 8192 = B := by omega
  obtain ⟨M, hM⟩ : ∃ M : Nat, 20 + p.b.length = M := ⟨_, rfl⟩
  have m1 : 20 + (p.b.length : Int) = (M : Int) := by omega
  have m2 : (M : Int) ≤ 3020 := by omega
  have m3 : IntKind.u32.wrap (M : Int) = (M : Int) := u32_fitsN M (by omega)
  have m4 : (p.b.length : Int) ≤ 3000 := by omega
  have m5 : IntKind.i64.wrap (M : Int) = (M : Int) := i64_wrapI _ (by omega) (by omega)
  have hz := txt_size p.b
  have HT1 : Hid (∀ W : World, _) := fun W => vText1 p.tos W (by have := hin.tos; omega)
  have HT2 : Hid (∀ W : World, _) := fun W => refText2 M W (by omega)
  have HT3 : Hid (∀ W : World, _) := fun W => refText2 p.id W (by have := hin.id; omega)
  have HT4 : Hid (∀ W : World, Calls Tryd.prog 41 #[.int .u32 B, .int .i64 2] W fun e w' => e = .returned (.string (txt (be2 p.bits))) ∧ Below W.heap.size W w') := fun W => by rw [← hB]; exact refText2 p.bits W (by omega)
  have HT5 : Hid (∀ W : World, _) := fun W => vText1 p.ttl W (by have := hin.ttl; omega)
  have HT6 : Hid (∀ W : World, _) := fun W => vText1 p.proto W (by have := hin.proto; omega)
  have HT7 : Hid (∀ W : World, _) := fun W => refText2 c W (by omega)
  have HT8 : Hid (∀ W : World, _) := fun W => refText4 p.src W hin.src
  have HT9 : Hid (∀ W : World, _) := fun W => refText4 p.dst W hin.dst
  have hf : (txt [69]) = ⟨#[69]⟩ := rfl
  have a1 : txt [69] ++ txt ([UInt8.ofNat p.tos]) = txt ([69] ++ [UInt8.ofNat p.tos]) := txt_append _ _
  have b1 : (txt ([UInt8.ofNat p.tos])).size = 1 := txt_size _
  have g1 : (txt ([69] ++ [UInt8.ofNat p.tos])).size = 2 := txt_size _
  have a2 : txt ([69] ++ [UInt8.ofNat p.tos]) ++ txt (be2 (M)) = txt (([69] ++ [UInt8.ofNat p.tos]) ++ be2 (M)) := txt_append _ _
  have b2 : (txt (be2 (M))).size = 2 := txt_size _
  have g2 : (txt (([69] ++ [UInt8.ofNat p.tos]) ++ be2 (M))).size = 4 := txt_size _
  have a3 : txt (([69] ++ [UInt8.ofNat p.tos]) ++ be2 (M)) ++ txt (be2 p.id) = txt ((([69] ++ [UInt8.ofNat p.tos]) ++ be2 (M)) ++ be2 p.id) := txt_append _ _
  have b3 : (txt (be2 p.id)).size = 2 := txt_size _
  have g3 : (txt ((([69] ++ [UInt8.ofNat p.tos]) ++ be2 (M)) ++ be2 p.id)).size = 6 := txt_size _
  have a4 : txt ((([69] ++ [UInt8.ofNat p.tos]) ++ be2 (M)) ++ be2 p.id) ++ txt (be2 p.bits) = txt (((([69] ++ [UInt8.ofNat p.tos]) ++ be2 (M)) ++ be2 p.id) ++ be2 p.bits) := txt_append _ _
  have b4 : (txt (be2 p.bits)).size = 2 := txt_size _
  have g4 : (txt (((([69] ++ [UInt8.ofNat p.tos]) ++ be2 (M)) ++ be2 p.id) ++ be2 p.bits)).size = 8 := txt_size _
  have a5 : txt (((([69] ++ [UInt8.ofNat p.tos]) ++ be2 (M)) ++ be2 p.id) ++ be2 p.bits) ++ txt ([UInt8.ofNat p.ttl]) = txt ((((([69] ++ [UInt8.ofNat p.tos]) ++ be2 (M)) ++ be2 p.id) ++ be2 p.bits) ++ [UInt8.ofNat p.ttl]) := txt_append _ _
  have b5 : (txt ([UInt8.ofNat p.ttl])).size = 1 := txt_size _
  have g5 : (txt ((((([69] ++ [UInt8.ofNat p.tos]) ++ be2 (M)) ++ be2 p.id) ++ be2 p.bits) ++ [UInt8.ofNat p.ttl])).size = 9 := txt_size _
  have a6 : txt ((((([69] ++ [UInt8.ofNat p.tos]) ++ be2 (M)) ++ be2 p.id) ++ be2 p.bits) ++ [UInt8.ofNat p.ttl]) ++ txt ([UInt8.ofNat p.proto]) = txt (((((([69] ++ [UInt8.ofNat p.tos]) ++ be2 (M)) ++ be2 p.id) ++ be2 p.bits) ++ [UInt8.ofNat p.ttl]) ++ [UInt8.ofNat p.proto]) := txt_append _ _
  have b6 : (txt ([UInt8.ofNat p.proto])).size = 1 := txt_size _
  have g6 : (txt (((((([69] ++ [UInt8.ofNat p.tos]) ++ be2 (M)) ++ be2 p.id) ++ be2 p.bits) ++ [UInt8.ofNat p.ttl]) ++ [UInt8.ofNat p.proto])).size = 10 := txt_size _
  have a7 : txt (((((([69] ++ [UInt8.ofNat p.tos]) ++ be2 (M)) ++ be2 p.id) ++ be2 p.bits) ++ [UInt8.ofNat p.ttl]) ++ [UInt8.ofNat p.proto]) ++ txt (be2 c) = txt ((((((([69] ++ [UInt8.ofNat p.tos]) ++ be2 (M)) ++ be2 p.id) ++ be2 p.bits) ++ [UInt8.ofNat p.ttl]) ++ [UInt8.ofNat p.proto]) ++ be2 c) := txt_append _ _
  have b7 : (txt (be2 c)).size = 2 := txt_size _
  have g7 : (txt ((((((([69] ++ [UInt8.ofNat p.tos]) ++ be2 (M)) ++ be2 p.id) ++ be2 p.bits) ++ [UInt8.ofNat p.ttl]) ++ [UInt8.ofNat p.proto]) ++ be2 c)).size = 12 := txt_size _
  have a8 : txt ((((((([69] ++ [UInt8.ofNat p.tos]) ++ be2 (M)) ++ be2 p.id) ++ be2 p.bits) ++ [UInt8.ofNat p.ttl]) ++ [UInt8.ofNat p.proto]) ++ be2 c) ++ txt (be4 p.src) = txt (((((((([69] ++ [UInt8.ofNat p.tos]) ++ be2 (M)) ++ be2 p.id) ++ be2 p.bits) ++ [UInt8.ofNat p.ttl]) ++ [UInt8.ofNat p.proto]) ++ be2 c) ++ be4 p.src) := txt_append _ _
  have b8 : (txt (be4 p.src)).size = 4 := txt_size _
  have g8 : (txt (((((((([69] ++ [UInt8.ofNat p.tos]) ++ be2 (M)) ++ be2 p.id) ++ be2 p.bits) ++ [UInt8.ofNat p.ttl]) ++ [UInt8.ofNat p.proto]) ++ be2 c) ++ be4 p.src)).size = 16 := txt_size _
  have a9 : txt (((((((([69] ++ [UInt8.ofNat p.tos]) ++ be2 (M)) ++ be2 p.id) ++ be2 p.bits) ++ [UInt8.ofNat p.ttl]) ++ [UInt8.ofNat p.proto]) ++ be2 c) ++ be4 p.src) ++ txt (be4 p.dst) = txt ((((((((([69] ++ [UInt8.ofNat p.tos]) ++ be2 (M)) ++ be2 p.id) ++ be2 p.bits) ++ [UInt8.ofNat p.ttl]) ++ [UInt8.ofNat p.proto]) ++ be2 c) ++ be4 p.src) ++ be4 p.dst) := txt_append _ _
  have b9 : (txt (be4 p.dst)).size = 4 := txt_size _
  have g9 : (txt ((((((((([69] ++ [UInt8.ofNat p.tos]) ++ be2 (M)) ++ be2 p.id) ++ be2 p.bits) ++ [UInt8.ofNat p.ttl]) ++ [UInt8.ofNat p.proto]) ++ be2 c) ++ be4 p.src) ++ be4 p.dst)).size = 20 := txt_size _
  have hall : txt (p.hd c).bs = txt ((((((((([69] ++ [UInt8.ofNat p.tos]) ++ be2 (M)) ++ be2 p.id) ++ be2 p.bits) ++ [UInt8.ofNat p.ttl]) ++ [UInt8.ofNat p.proto]) ++ be2 c) ++ be4 p.src) ++ be4 p.dst) := by rw [← hM]; rfl
  rw [hf] at a1
  rw [hall]
  clear hf hall hk hbits hn hp hin hc z1 z2 z3 hM
  generalize txt ((((((((([69] ++ [UInt8.ofNat p.tos]) ++ be2 (M)) ++ be2 p.id) ++ be2 p.bits) ++ [UInt8.ofNat p.ttl]) ++ [UInt8.ofNat p.proto]) ++ be2 c) ++ be4 p.src) ++ be4 p.dst) = S9 at *
  generalize txt (((((((([69] ++ [UInt8.ofNat p.tos]) ++ be2 (M)) ++ be2 p.id) ++ be2 p.bits) ++ [UInt8.ofNat p.ttl]) ++ [UInt8.ofNat p.proto]) ++ be2 c) ++ be4 p.src) = S8 at *
  generalize txt ((((((([69] ++ [UInt8.ofNat p.tos]) ++ be2 (M)) ++ be2 p.id) ++ be2 p.bits) ++ [UInt8.ofNat p.ttl]) ++ [UInt8.ofNat p.proto]) ++ be2 c) = S7 at *
  generalize txt (((((([69] ++ [UInt8.ofNat p.tos]) ++ be2 (M)) ++ be2 p.id) ++ be2 p.bits) ++ [UInt8.ofNat p.ttl]) ++ [UInt8.ofNat p.proto]) = S6 at *
  generalize txt ((((([69] ++ [UInt8.ofNat p.tos]) ++ be2 (M)) ++ be2 p.id) ++ be2 p.bits) ++ [UInt8.ofNat p.ttl]) = S5 at *
  generalize txt (((([69] ++ [UInt8.ofNat p.tos]) ++ be2 (M)) ++ be2 p.id) ++ be2 p.bits) = S4 at *
  generalize txt ((([69] ++ [UInt8.ofNat p.tos]) ++ be2 (M)) ++ be2 p.id) = S3 at *
  generalize txt (([69] ++ [UInt8.ofNat p.tos]) ++ be2 (M)) = S2 at *
  generalize txt ([69] ++ [UInt8.ofNat p.tos]) = S1 at *
  generalize txt ([UInt8.ofNat p.tos]) = T1 at *
  generalize txt (be2 (M)) = T2 at *
  generalize txt (be2 p.id) = T3 at *
  generalize txt (be2 p.bits) = T4 at *
  generalize txt ([UInt8.ofNat p.ttl]) = T5 at *
  generalize txt ([UInt8.ofNat p.proto]) = T6 at *
  generalize txt (be2 c) = T7 at *
  generalize txt (be4 p.src) = T8 at *
  generalize txt (be4 p.dst) = T9 at *
  have HX := Lib.hid hx
  have HD := Lib.hid hd
  have HM := Lib.hid hm
  clear hx hd hm hB
  generalize hp1 : p.b.length = L at *
  generalize hp2 : txt p.b = tb at *
  go_enter Tryd.func25, Tryd.ntmps25
  go_upto_region 1 with fail
  generalize w.alloc (.cells #[.int .u32 p.tos, .int .u32 p.id, .bool p.df, .bool p.mf, .int .i64 p.off, .int .u32 p.ttl, .int .u32 p.proto, .int .u32 p.src, .int .u32 p.dst, .string (tb)] 34) = W0 at *
  generalize hnn : w.heap.size = n at *
  have HNN := Lib.hid hnn
  clear hnn
  have KS : Hid (∀ W, Below W0.heap.size W0 W → (W.cell? ⟨n, 0, none⟩ = some (.int .u32 p.tos) ∧ W.cell? ⟨n, 1, none⟩ = some (.int .u32 p.id) ∧ W.cell? ⟨n, 9, none⟩ = some (.string tb)) ∧ W.cell? ⟨n, 5, none⟩ = some (.int .u32 p.ttl) ∧ W.cell? ⟨n, 6, none⟩ = some (.int .u32 p.proto) ∧ W.cell? ⟨n, 7, none⟩ = some (.int .u32 p.src) ∧ W.cell? ⟨n, 8, none⟩ = some (.int .u32 p.dst)) := fun W h => by
    obtain ⟨e0, e1, e2, e3, e4, e5, e6, e7, e8, e9⟩ := (HX.out.below h).cells
    rw [hp2] at e9
    exact ⟨⟨e0, e1, e9⟩, e5, e6, e7, e8⟩
  obtain ⟨c0, c1, c2, c3, c4, c5, c6, c7, c8, c9⟩ := HX.out.cells
  rw [HD.out] at c2
  rw [HM.out] at c3
  clear HX hp1 hp2 c0 c1 c5 c6 c7 c8 c9
  go_upto_region 6 with fail
  clear c2 c3 c4 k1 k2 k4
  go_region_held_law (fun W => W.cell? ⟨n, 0, none⟩ = some (.int .u32 p.tos) ∧ W.cell? ⟨n, 1, none⟩ = some (.int .u32 p.id) ∧ W.cell? ⟨n, 9, none⟩ = some (.string tb))
    (first | assumption | exact (KS.out _ HL4.out).1 | exact (KS.out _ HL3.out).1 | exact (KS.out _ HL2.out).1 | exact (KS.out _ HL1.out).1 | exact (KS.out _ (below_drew W0)).1)
    (first
      | (go_at_call 41; (with_reducible refine (HT1.out _).mono ?_); rintro e w2 ⟨rfl, hl⟩; (have HL1 := Lib.hid ((below_drew W0).trans hl)); clear hl)
      | (go_at_call 41; (with_reducible refine (HT2.out _).mono ?_); rintro e w3 ⟨rfl, hl⟩; (have HL2 := Lib.hid (below_to HL1.out hl HL1.out.size)); clear hl)
      | (go_at_call 41; (with_reducible refine (HT3.out _).mono ?_); rintro e w4 ⟨rfl, hl⟩; (have HL3 := Lib.hid (below_to HL2.out hl HL2.out.size)); clear hl)
      | (go_at_call 41; (with_reducible refine (HT4.out _).mono ?_); rintro e w5 ⟨rfl, hl⟩; (have HL4 := Lib.hid (below_to HL3.out hl HL3.out.size)); clear hl))
  go_upto_region 7 with fail
  go_region_held_law (fun W => W.cell? ⟨n, 5, none⟩ = some (.int .u32 p.ttl) ∧ W.cell? ⟨n, 6, none⟩ = some (.int .u32 p.proto) ∧ W.cell? ⟨n, 7, none⟩ = some (.int .u32 p.src) ∧ W.cell? ⟨n, 8, none⟩ = some (.int .u32 p.dst))
    (first | assumption | exact (KS.out _ HL9.out).2 | exact (KS.out _ HL8.out).2 | exact (KS.out _ HL7.out).2 | exact (KS.out _ HL6.out).2 | exact (KS.out _ HL5.out).2 | exact (KS.out _ (below_to HL4.out (below_drew w5) HL4.out.size)).2)
    (first
      | (go_at_call 41; (with_reducible refine (HT5.out _).mono ?_); rintro e w6 ⟨rfl, hl⟩; (have HL5 := Lib.hid (below_to HL4.out ((below_drew w5).trans hl) HL4.out.size)); clear hl)
      | (go_at_call 41; (with_reducible refine (HT6.out _).mono ?_); rintro e w7 ⟨rfl, hl⟩; (have HL6 := Lib.hid (below_to HL5.out hl HL5.out.size)); clear hl)
      | (go_at_call 41; (with_reducible refine (HT7.out _).mono ?_); rintro e w8 ⟨rfl, hl⟩; (have HL7 := Lib.hid (below_to HL6.out hl HL6.out.size)); clear hl)
      | (go_at_call 41; (with_reducible refine (HT8.out _).mono ?_); rintro e w9 ⟨rfl, hl⟩; (have HL8 := Lib.hid (below_to HL7.out hl HL7.out.size)); clear hl)
      | (go_at_call 41; (with_reducible refine (HT9.out _).mono ?_); rintro e w10 ⟨rfl, hl⟩; (have HL9 := Lib.hid (below_to HL8.out hl HL8.out.size)); clear hl))
  go_wp2_with fail
  go_ret
  exact ⟨rfl, by rw [HNN.out]; exact ibelow_on' HB.out HL9.out⟩
set_option maxRecDepth 100000 in
set_option maxHeartbeats 4000000 in
theorem refHead_tf (p : Ip) (hp : p.Own) (hn : p.bad = 0) (hd : p.df = true) (hm : p.mf = false) (c : Nat) (hc : c < 65536) (w : World) :
    Calls Tryd.prog 25 #[.agg #[.int .u32 p.tos, .int .u32 p.id, .bool p.df, .bool p.mf, .int .i64 p.off, .int .u32 p.ttl, .int .u32 p.proto, .int .u32 p.src, .int .u32 p.dst, .string (txt p.b)], .int .u32 (c : Int)] w fun e w' => e = .returned (.string (txt (p.hd c).bs)) ∧ Below w.heap.size w w' := by
  have hin := hp.inn
  have hfew := hp.few
  obtain ⟨z1, z2, z3, _⟩ := bad_zero hn
  have hx : RfAt (w.alloc (.cells #[.int .u32 p.tos, .int .u32 p.id, .bool p.df, .bool p.mf, .int .i64 p.off, .int .u32 p.ttl, .int .u32 p.proto, .int .u32 p.src, .int .u32 p.dst, .string (txt p.b)] 34)) w.heap.size p := heap_alloc_new w _
  have hb0 := below_al (Below.refl w.heap.size w) (.cells #[.int .u32 p.tos, .int .u32 p.id, .bool p.df, .bool p.mf, .int .i64 p.off, .int .u32 p.ttl, .int .u32 p.proto, .int .u32 p.src, .int .u32 p.dst, .string (txt p.b)] 34)
  have HB := Lib.hid (And.intro hb0 hb0.size)
  clear hb0
  have hbits : p.bits = 16384 + (p.off / 8).toNat := by unfold Ip.bits Ip.fl; rw [hd, hm]; simp
  obtain ⟨k, hk⟩ : ∃ k : Nat, (p.off / 8).toNat = k := ⟨_, rfl⟩
  have k1 : p.off.tdiv 8 = (k : Int) := by rw [Int.tdiv_eq_ediv_of_nonneg (by omega)]; omega
  have k2 : p.off / 8 = (k : Int) := by omega
  have k3 : (k : Int) < 8192 := by omega
  have k4 : IntKind.u32.wrap (k : Int) = (k : Int) := u32_fitsN k (by omega)
  obtain ⟨B, hB⟩ : ∃ B : Int, (p.bits : Int) = B := ⟨_, rfl⟩
  have k5 : (k : Int) + 16384 = B := by omega
  obtain ⟨M, hM⟩ : ∃ M : Nat, 20 + p.b.length = M := ⟨_, rfl⟩
  have m1 : 20 + (p.b.length : Int) = (M : Int) := by omega
  have m2 : (M : Int) ≤ 3020 := by omega
  have m3 : IntKind.u32.wrap (M : Int) = (M : Int) := u32_fitsN M (by omega)
  have m4 : (p.b.length : Int) ≤ 3000 := by omega
  have m5 : IntKind.i64.wrap (M : Int) = (M : Int) := i64_wrapI _ (by omega) (by omega)
  have hz := txt_size p.b
  have HT1 : Hid (∀ W : World, _) := fun W => vText1 p.tos W (by have := hin.tos; omega)
  have HT2 : Hid (∀ W : World, _) := fun W => refText2 M W (by omega)
  have HT3 : Hid (∀ W : World, _) := fun W => refText2 p.id W (by have := hin.id; omega)
  have HT4 : Hid (∀ W : World, Calls Tryd.prog 41 #[.int .u32 B, .int .i64 2] W fun e w' => e = .returned (.string (txt (be2 p.bits))) ∧ Below W.heap.size W w') := fun W => by rw [← hB]; exact refText2 p.bits W (by omega)
  have HT5 : Hid (∀ W : World, _) := fun W => vText1 p.ttl W (by have := hin.ttl; omega)
  have HT6 : Hid (∀ W : World, _) := fun W => vText1 p.proto W (by have := hin.proto; omega)
  have HT7 : Hid (∀ W : World, _) := fun W => refText2 c W (by omega)
  have HT8 : Hid (∀ W : World, _) := fun W => refText4 p.src W hin.src
  have HT9 : Hid (∀ W : World, _) := fun W => refText4 p.dst W hin.dst
  have hf : (txt [69]) = ⟨#[69]⟩ := rfl
  have a1 : txt [69] ++ txt ([UInt8.ofNat p.tos]) = txt ([69] ++ [UInt8.ofNat p.tos]) := txt_append _ _
  have b1 : (txt ([UInt8.ofNat p.tos])).size = 1 := txt_size _
  have g1 : (txt ([69] ++ [UInt8.ofNat p.tos])).size = 2 := txt_size _
  have a2 : txt ([69] ++ [UInt8.ofNat p.tos]) ++ txt (be2 (M)) = txt (([69] ++ [UInt8.ofNat p.tos]) ++ be2 (M)) := txt_append _ _
  have b2 : (txt (be2 (M))).size = 2 := txt_size _
  have g2 : (txt (([69] ++ [UInt8.ofNat p.tos]) ++ be2 (M))).size = 4 := txt_size _
  have a3 : txt (([69] ++ [UInt8.ofNat p.tos]) ++ be2 (M)) ++ txt (be2 p.id) = txt ((([69] ++ [UInt8.ofNat p.tos]) ++ be2 (M)) ++ be2 p.id) := txt_append _ _
  have b3 : (txt (be2 p.id)).size = 2 := txt_size _
  have g3 : (txt ((([69] ++ [UInt8.ofNat p.tos]) ++ be2 (M)) ++ be2 p.id)).size = 6 := txt_size _
  have a4 : txt ((([69] ++ [UInt8.ofNat p.tos]) ++ be2 (M)) ++ be2 p.id) ++ txt (be2 p.bits) = txt (((([69] ++ [UInt8.ofNat p.tos]) ++ be2 (M)) ++ be2 p.id) ++ be2 p.bits) := txt_append _ _
  have b4 : (txt (be2 p.bits)).size = 2 := txt_size _
  have g4 : (txt (((([69] ++ [UInt8.ofNat p.tos]) ++ be2 (M)) ++ be2 p.id) ++ be2 p.bits)).size = 8 := txt_size _
  have a5 : txt (((([69] ++ [UInt8.ofNat p.tos]) ++ be2 (M)) ++ be2 p.id) ++ be2 p.bits) ++ txt ([UInt8.ofNat p.ttl]) = txt ((((([69] ++ [UInt8.ofNat p.tos]) ++ be2 (M)) ++ be2 p.id) ++ be2 p.bits) ++ [UInt8.ofNat p.ttl]) := txt_append _ _
  have b5 : (txt ([UInt8.ofNat p.ttl])).size = 1 := txt_size _
  have g5 : (txt ((((([69] ++ [UInt8.ofNat p.tos]) ++ be2 (M)) ++ be2 p.id) ++ be2 p.bits) ++ [UInt8.ofNat p.ttl])).size = 9 := txt_size _
  have a6 : txt ((((([69] ++ [UInt8.ofNat p.tos]) ++ be2 (M)) ++ be2 p.id) ++ be2 p.bits) ++ [UInt8.ofNat p.ttl]) ++ txt ([UInt8.ofNat p.proto]) = txt (((((([69] ++ [UInt8.ofNat p.tos]) ++ be2 (M)) ++ be2 p.id) ++ be2 p.bits) ++ [UInt8.ofNat p.ttl]) ++ [UInt8.ofNat p.proto]) := txt_append _ _
  have b6 : (txt ([UInt8.ofNat p.proto])).size = 1 := txt_size _
  have g6 : (txt (((((([69] ++ [UInt8.ofNat p.tos]) ++ be2 (M)) ++ be2 p.id) ++ be2 p.bits) ++ [UInt8.ofNat p.ttl]) ++ [UInt8.ofNat p.proto])).size = 10 := txt_size _
  have a7 : txt (((((([69] ++ [UInt8.ofNat p.tos]) ++ be2 (M)) ++ be2 p.id) ++ be2 p.bits) ++ [UInt8.ofNat p.ttl]) ++ [UInt8.ofNat p.proto]) ++ txt (be2 c) = txt ((((((([69] ++ [UInt8.ofNat p.tos]) ++ be2 (M)) ++ be2 p.id) ++ be2 p.bits) ++ [UInt8.ofNat p.ttl]) ++ [UInt8.ofNat p.proto]) ++ be2 c) := txt_append _ _
  have b7 : (txt (be2 c)).size = 2 := txt_size _
  have g7 : (txt ((((((([69] ++ [UInt8.ofNat p.tos]) ++ be2 (M)) ++ be2 p.id) ++ be2 p.bits) ++ [UInt8.ofNat p.ttl]) ++ [UInt8.ofNat p.proto]) ++ be2 c)).size = 12 := txt_size _
  have a8 : txt ((((((([69] ++ [UInt8.ofNat p.tos]) ++ be2 (M)) ++ be2 p.id) ++ be2 p.bits) ++ [UInt8.ofNat p.ttl]) ++ [UInt8.ofNat p.proto]) ++ be2 c) ++ txt (be4 p.src) = txt (((((((([69] ++ [UInt8.ofNat p.tos]) ++ be2 (M)) ++ be2 p.id) ++ be2 p.bits) ++ [UInt8.ofNat p.ttl]) ++ [UInt8.ofNat p.proto]) ++ be2 c) ++ be4 p.src) := txt_append _ _
  have b8 : (txt (be4 p.src)).size = 4 := txt_size _
  have g8 : (txt (((((((([69] ++ [UInt8.ofNat p.tos]) ++ be2 (M)) ++ be2 p.id) ++ be2 p.bits) ++ [UInt8.ofNat p.ttl]) ++ [UInt8.ofNat p.proto]) ++ be2 c) ++ be4 p.src)).size = 16 := txt_size _
  have a9 : txt (((((((([69] ++ [UInt8.ofNat p.tos]) ++ be2 (M)) ++ be2 p.id) ++ be2 p.bits) ++ [UInt8.ofNat p.ttl]) ++ [UInt8.ofNat p.proto]) ++ be2 c) ++ be4 p.src) ++ txt (be4 p.dst) = txt ((((((((([69] ++ [UInt8.ofNat p.tos]) ++ be2 (M)) ++ be2 p.id) ++ be2 p.bits) ++ [UInt8.ofNat p.ttl]) ++ [UInt8.ofNat p.proto]) ++ be2 c) ++ be4 p.src) ++ be4 p.dst) := txt_append _ _
  have b9 : (txt (be4 p.dst)).size = 4 := txt_size _
  have g9 : (txt ((((((((([69] ++ [UInt8.ofNat p.tos]) ++ be2 (M)) ++ be2 p.id) ++ be2 p.bits) ++ [UInt8.ofNat p.ttl]) ++ [UInt8.ofNat p.proto]) ++ be2 c) ++ be4 p.src) ++ be4 p.dst)).size = 20 := txt_size _
  have hall : txt (p.hd c).bs = txt ((((((((([69] ++ [UInt8.ofNat p.tos]) ++ be2 (M)) ++ be2 p.id) ++ be2 p.bits) ++ [UInt8.ofNat p.ttl]) ++ [UInt8.ofNat p.proto]) ++ be2 c) ++ be4 p.src) ++ be4 p.dst) := by rw [← hM]; rfl
  rw [hf] at a1
  rw [hall]
  clear hf hall hk hbits hn hp hin hc z1 z2 z3 hM
  generalize txt ((((((((([69] ++ [UInt8.ofNat p.tos]) ++ be2 (M)) ++ be2 p.id) ++ be2 p.bits) ++ [UInt8.ofNat p.ttl]) ++ [UInt8.ofNat p.proto]) ++ be2 c) ++ be4 p.src) ++ be4 p.dst) = S9 at *
  generalize txt (((((((([69] ++ [UInt8.ofNat p.tos]) ++ be2 (M)) ++ be2 p.id) ++ be2 p.bits) ++ [UInt8.ofNat p.ttl]) ++ [UInt8.ofNat p.proto]) ++ be2 c) ++ be4 p.src) = S8 at *
  generalize txt ((((((([69] ++ [UInt8.ofNat p.tos]) ++ be2 (M)) ++ be2 p.id) ++ be2 p.bits) ++ [UInt8.ofNat p.ttl]) ++ [UInt8.ofNat p.proto]) ++ be2 c) = S7 at *
  generalize txt (((((([69] ++ [UInt8.ofNat p.tos]) ++ be2 (M)) ++ be2 p.id) ++ be2 p.bits) ++ [UInt8.ofNat p.ttl]) ++ [UInt8.ofNat p.proto]) = S6 at *
  generalize txt ((((([69] ++ [UInt8.ofNat p.tos]) ++ be2 (M)) ++ be2 p.id) ++ be2 p.bits) ++ [UInt8.ofNat p.ttl]) = S5 at *
  generalize txt (((([69] ++ [UInt8.ofNat p.tos]) ++ be2 (M)) ++ be2 p.id) ++ be2 p.bits) = S4 at *
  generalize txt ((([69] ++ [UInt8.ofNat p.tos]) ++ be2 (M)) ++ be2 p.id) = S3 at *
  generalize txt (([69] ++ [UInt8.ofNat p.tos]) ++ be2 (M)) = S2 at *
  generalize txt ([69] ++ [UInt8.ofNat p.tos]) = S1 at *
  generalize txt ([UInt8.ofNat p.tos]) = T1 at *
  generalize txt (be2 (M)) = T2 at *
  generalize txt (be2 p.id) = T3 at *
  generalize txt (be2 p.bits) = T4 at *
  generalize txt ([UInt8.ofNat p.ttl]) = T5 at *
  generalize txt ([UInt8.ofNat p.proto]) = T6 at *
  generalize txt (be2 c) = T7 at *
  generalize txt (be4 p.src) = T8 at *
  generalize txt (be4 p.dst) = T9 at *
  have HX := Lib.hid hx
  have HD := Lib.hid hd
  have HM := Lib.hid hm
  clear hx hd hm hB
  generalize hp1 : p.b.length = L at *
  generalize hp2 : txt p.b = tb at *
  go_enter Tryd.func25, Tryd.ntmps25
  go_upto_region 1 with fail
  generalize w.alloc (.cells #[.int .u32 p.tos, .int .u32 p.id, .bool p.df, .bool p.mf, .int .i64 p.off, .int .u32 p.ttl, .int .u32 p.proto, .int .u32 p.src, .int .u32 p.dst, .string (tb)] 34) = W0 at *
  generalize hnn : w.heap.size = n at *
  have HNN := Lib.hid hnn
  clear hnn
  have KS : Hid (∀ W, Below W0.heap.size W0 W → (W.cell? ⟨n, 0, none⟩ = some (.int .u32 p.tos) ∧ W.cell? ⟨n, 1, none⟩ = some (.int .u32 p.id) ∧ W.cell? ⟨n, 9, none⟩ = some (.string tb)) ∧ W.cell? ⟨n, 5, none⟩ = some (.int .u32 p.ttl) ∧ W.cell? ⟨n, 6, none⟩ = some (.int .u32 p.proto) ∧ W.cell? ⟨n, 7, none⟩ = some (.int .u32 p.src) ∧ W.cell? ⟨n, 8, none⟩ = some (.int .u32 p.dst)) := fun W h => by
    obtain ⟨e0, e1, e2, e3, e4, e5, e6, e7, e8, e9⟩ := (HX.out.below h).cells
    rw [hp2] at e9
    exact ⟨⟨e0, e1, e9⟩, e5, e6, e7, e8⟩
  obtain ⟨c0, c1, c2, c3, c4, c5, c6, c7, c8, c9⟩ := HX.out.cells
  rw [HD.out] at c2
  rw [HM.out] at c3
  clear HX hp1 hp2 c0 c1 c5 c6 c7 c8 c9
  go_upto_region 6 with fail
  clear c2 c3 c4 k1 k2 k4
  go_region_held_law (fun W => W.cell? ⟨n, 0, none⟩ = some (.int .u32 p.tos) ∧ W.cell? ⟨n, 1, none⟩ = some (.int .u32 p.id) ∧ W.cell? ⟨n, 9, none⟩ = some (.string tb))
    (first | assumption | exact (KS.out _ HL4.out).1 | exact (KS.out _ HL3.out).1 | exact (KS.out _ HL2.out).1 | exact (KS.out _ HL1.out).1 | exact (KS.out _ (below_drew W0)).1)
    (first
      | (go_at_call 41; (with_reducible refine (HT1.out _).mono ?_); rintro e w2 ⟨rfl, hl⟩; (have HL1 := Lib.hid ((below_drew W0).trans hl)); clear hl)
      | (go_at_call 41; (with_reducible refine (HT2.out _).mono ?_); rintro e w3 ⟨rfl, hl⟩; (have HL2 := Lib.hid (below_to HL1.out hl HL1.out.size)); clear hl)
      | (go_at_call 41; (with_reducible refine (HT3.out _).mono ?_); rintro e w4 ⟨rfl, hl⟩; (have HL3 := Lib.hid (below_to HL2.out hl HL2.out.size)); clear hl)
      | (go_at_call 41; (with_reducible refine (HT4.out _).mono ?_); rintro e w5 ⟨rfl, hl⟩; (have HL4 := Lib.hid (below_to HL3.out hl HL3.out.size)); clear hl))
  go_upto_region 7 with fail
  go_region_held_law (fun W => W.cell? ⟨n, 5, none⟩ = some (.int .u32 p.ttl) ∧ W.cell? ⟨n, 6, none⟩ = some (.int .u32 p.proto) ∧ W.cell? ⟨n, 7, none⟩ = some (.int .u32 p.src) ∧ W.cell? ⟨n, 8, none⟩ = some (.int .u32 p.dst))
    (first | assumption | exact (KS.out _ HL9.out).2 | exact (KS.out _ HL8.out).2 | exact (KS.out _ HL7.out).2 | exact (KS.out _ HL6.out).2 | exact (KS.out _ HL5.out).2 | exact (KS.out _ (below_to HL4.out (below_drew w5) HL4.out.size)).2)
    (first
      | (go_at_call 41; (with_reducible refine (HT5.out _).mono ?_); rintro e w6 ⟨rfl, hl⟩; (have HL5 := Lib.hid (below_to HL4.out ((below_drew w5).trans hl) HL4.out.size)); clear hl)
      | (go_at_call 41; (with_reducible refine (HT6.out _).mono ?_); rintro e w7 ⟨rfl, hl⟩; (have HL6 := Lib.hid (below_to HL5.out hl HL5.out.size)); clear hl)
      | (go_at_call 41; (with_reducible refine (HT7.out _).mono ?_); rintro e w8 ⟨rfl, hl⟩; (have HL7 := Lib.hid (below_to HL6.out hl HL6.out.size)); clear hl)
      | (go_at_call 41; (with_reducible refine (HT8.out _).mono ?_); rintro e w9 ⟨rfl, hl⟩; (have HL8 := Lib.hid (below_to HL7.out hl HL7.out.size)); clear hl)
      | (go_at_call 41; (with_reducible refine (HT9.out _).mono ?_); rintro e w10 ⟨rfl, hl⟩; (have HL9 := Lib.hid (below_to HL8.out hl HL8.out.size)); clear hl))
  go_wp2_with fail
  go_ret
  exact ⟨rfl, by rw [HNN.out]; exact ibelow_on' HB.out HL9.out⟩
set_option maxRecDepth 100000 in
set_option maxHeartbeats 4000000 in
theorem refHead_tt (p : Ip) (hp : p.Own) (hn : p.bad = 0) (hd : p.df = true) (hm : p.mf = true) (c : Nat) (hc : c < 65536) (w : World) :
    Calls Tryd.prog 25 #[.agg #[.int .u32 p.tos, .int .u32 p.id, .bool p.df, .bool p.mf, .int .i64 p.off, .int .u32 p.ttl, .int .u32 p.proto, .int .u32 p.src, .int .u32 p.dst, .string (txt p.b)], .int .u32 (c : Int)] w fun e w' => e = .returned (.string (txt (p.hd c).bs)) ∧ Below w.heap.size w w' := by
  have hin := hp.inn
  have hfew := hp.few
  obtain ⟨z1, z2, z3, _⟩ := bad_zero hn
  have hx : RfAt (w.alloc (.cells #[.int .u32 p.tos, .int .u32 p.id, .bool p.df, .bool p.mf, .int .i64 p.off, .int .u32 p.ttl, .int .u32 p.proto, .int .u32 p.src, .int .u32 p.dst, .string (txt p.b)] 34)) w.heap.size p := heap_alloc_new w _
  have hb0 := below_al (Below.refl w.heap.size w) (.cells #[.int .u32 p.tos, .int .u32 p.id, .bool p.df, .bool p.mf, .int .i64 p.off, .int .u32 p.ttl, .int .u32 p.proto, .int .u32 p.src, .int .u32 p.dst, .string (txt p.b)] 34)
  have HB := Lib.hid (And.intro hb0 hb0.size)
  clear hb0
  have hbits : p.bits = 24576 + (p.off / 8).toNat := by unfold Ip.bits Ip.fl; rw [hd, hm]; simp
  obtain ⟨k, hk⟩ : ∃ k : Nat, (p.off / 8).toNat = k := ⟨_, rfl⟩
  have k1 : p.off.tdiv 8 = (k : Int) := by rw [Int.tdiv_eq_ediv_of_nonneg (by omega)]; omega
  have k2 : p.off / 8 = (k : Int) := by omega
  have k3 : (k : Int) < 8192 := by omega
  have k4 : IntKind.u32.wrap (k : Int) = (k : Int) := u32_fitsN k (by omega)
  obtain ⟨B, hB⟩ : ∃ B : Int, (p.bits : Int) = B := ⟨_, rfl⟩
  have k5 : (k : Int) + 8192 + 16384 = B := by omega
  obtain ⟨M, hM⟩ : ∃ M : Nat, 20 + p.b.length = M := ⟨_, rfl⟩
  have m1 : 20 + (p.b.length : Int) = (M : Int) := by omega
  have m2 : (M : Int) ≤ 3020 := by omega
  have m3 : IntKind.u32.wrap (M : Int) = (M : Int) := u32_fitsN M (by omega)
  have m4 : (p.b.length : Int) ≤ 3000 := by omega
  have m5 : IntKind.i64.wrap (M : Int) = (M : Int) := i64_wrapI _ (by omega) (by omega)
  have hz := txt_size p.b
  have HT1 : Hid (∀ W : World, _) := fun W => vText1 p.tos W (by have := hin.tos; omega)
  have HT2 : Hid (∀ W : World, _) := fun W => refText2 M W (by omega)
  have HT3 : Hid (∀ W : World, _) := fun W => refText2 p.id W (by have := hin.id; omega)
  have HT4 : Hid (∀ W : World, Calls Tryd.prog 41 #[.int .u32 B, .int .i64 2] W fun e w' => e = .returned (.string (txt (be2 p.bits))) ∧ Below W.heap.size W w') := fun W => by rw [← hB]; exact refText2 p.bits W (by omega)
  have HT5 : Hid (∀ W : World, _) := fun W => vText1 p.ttl W (by have := hin.ttl; omega)
  have HT6 : Hid (∀ W : World, _) := fun W => vText1 p.proto W (by have := hin.proto; omega)
  have HT7 : Hid (∀ W : World, _) := fun W => refText2 c W (by omega)
  have HT8 : Hid (∀ W : World, _) := fun W => refText4 p.src W hin.src
  have HT9 : Hid (∀ W : World, _) := fun W => refText4 p.dst W hin.dst
  have hf : (txt [69]) = ⟨#[69]⟩ := rfl
  have a1 : txt [69] ++ txt ([UInt8.ofNat p.tos]) = txt ([69] ++ [UInt8.ofNat p.tos]) := txt_append _ _
  have b1 : (txt ([UInt8.ofNat p.tos])).size = 1 := txt_size _
  have g1 : (txt ([69] ++ [UInt8.ofNat p.tos])).size = 2 := txt_size _
  have a2 : txt ([69] ++ [UInt8.ofNat p.tos]) ++ txt (be2 (M)) = txt (([69] ++ [UInt8.ofNat p.tos]) ++ be2 (M)) := txt_append _ _
  have b2 : (txt (be2 (M))).size = 2 := txt_size _
  have g2 : (txt (([69] ++ [UInt8.ofNat p.tos]) ++ be2 (M))).size = 4 := txt_size _
  have a3 : txt (([69] ++ [UInt8.ofNat p.tos]) ++ be2 (M)) ++ txt (be2 p.id) = txt ((([69] ++ [UInt8.ofNat p.tos]) ++ be2 (M)) ++ be2 p.id) := txt_append _ _
  have b3 : (txt (be2 p.id)).size = 2 := txt_size _
  have g3 : (txt ((([69] ++ [UInt8.ofNat p.tos]) ++ be2 (M)) ++ be2 p.id)).size = 6 := txt_size _
  have a4 : txt ((([69] ++ [UInt8.ofNat p.tos]) ++ be2 (M)) ++ be2 p.id) ++ txt (be2 p.bits) = txt (((([69] ++ [UInt8.ofNat p.tos]) ++ be2 (M)) ++ be2 p.id) ++ be2 p.bits) := txt_append _ _
  have b4 : (txt (be2 p.bits)).size = 2 := txt_size _
  have g4 : (txt (((([69] ++ [UInt8.ofNat p.tos]) ++ be2 (M)) ++ be2 p.id) ++ be2 p.bits)).size = 8 := txt_size _
  have a5 : txt (((([69] ++ [UInt8.ofNat p.tos]) ++ be2 (M)) ++ be2 p.id) ++ be2 p.bits) ++ txt ([UInt8.ofNat p.ttl]) = txt ((((([69] ++ [UInt8.ofNat p.tos]) ++ be2 (M)) ++ be2 p.id) ++ be2 p.bits) ++ [UInt8.ofNat p.ttl]) := txt_append _ _
  have b5 : (txt ([UInt8.ofNat p.ttl])).size = 1 := txt_size _
  have g5 : (txt ((((([69] ++ [UInt8.ofNat p.tos]) ++ be2 (M)) ++ be2 p.id) ++ be2 p.bits) ++ [UInt8.ofNat p.ttl])).size = 9 := txt_size _
  have a6 : txt ((((([69] ++ [UInt8.ofNat p.tos]) ++ be2 (M)) ++ be2 p.id) ++ be2 p.bits) ++ [UInt8.ofNat p.ttl]) ++ txt ([UInt8.ofNat p.proto]) = txt (((((([69] ++ [UInt8.ofNat p.tos]) ++ be2 (M)) ++ be2 p.id) ++ be2 p.bits) ++ [UInt8.ofNat p.ttl]) ++ [UInt8.ofNat p.proto]) := txt_append _ _
  have b6 : (txt ([UInt8.ofNat p.proto])).size = 1 := txt_size _
  have g6 : (txt (((((([69] ++ [UInt8.ofNat p.tos]) ++ be2 (M)) ++ be2 p.id) ++ be2 p.bits) ++ [UInt8.ofNat p.ttl]) ++ [UInt8.ofNat p.proto])).size = 10 := txt_size _
  have a7 : txt (((((([69] ++ [UInt8.ofNat p.tos]) ++ be2 (M)) ++ be2 p.id) ++ be2 p.bits) ++ [UInt8.ofNat p.ttl]) ++ [UInt8.ofNat p.proto]) ++ txt (be2 c) = txt ((((((([69] ++ [UInt8.ofNat p.tos]) ++ be2 (M)) ++ be2 p.id) ++ be2 p.bits) ++ [UInt8.ofNat p.ttl]) ++ [UInt8.ofNat p.proto]) ++ be2 c) := txt_append _ _
  have b7 : (txt (be2 c)).size = 2 := txt_size _
  have g7 : (txt ((((((([69] ++ [UInt8.ofNat p.tos]) ++ be2 (M)) ++ be2 p.id) ++ be2 p.bits) ++ [UInt8.ofNat p.ttl]) ++ [UInt8.ofNat p.proto]) ++ be2 c)).size = 12 := txt_size _
  have a8 : txt ((((((([69] ++ [UInt8.ofNat p.tos]) ++ be2 (M)) ++ be2 p.id) ++ be2 p.bits) ++ [UInt8.ofNat p.ttl]) ++ [UInt8.ofNat p.proto]) ++ be2 c) ++ txt (be4 p.src) = txt (((((((([69] ++ [UInt8.ofNat p.tos]) ++ be2 (M)) ++ be2 p.id) ++ be2 p.bits) ++ [UInt8.ofNat p.ttl]) ++ [UInt8.ofNat p.proto]) ++ be2 c) ++ be4 p.src) := txt_append _ _
  have b8 : (txt (be4 p.src)).size = 4 := txt_size _
  have g8 : (txt (((((((([69] ++ [UInt8.ofNat p.tos]) ++ be2 (M)) ++ be2 p.id) ++ be2 p.bits) ++ [UInt8.ofNat p.ttl]) ++ [UInt8.ofNat p.proto]) ++ be2 c) ++ be4 p.src)).size = 16 := txt_size _
  have a9 : txt (((((((([69] ++ [UInt8.ofNat p.tos]) ++ be2 (M)) ++ be2 p.id) ++ be2 p.bits) ++ [UInt8.ofNat p.ttl]) ++ [UInt8.ofNat p.proto]) ++ be2 c) ++ be4 p.src) ++ txt (be4 p.dst) = txt ((((((((([69] ++ [UInt8.ofNat p.tos]) ++ be2 (M)) ++ be2 p.id) ++ be2 p.bits) ++ [UInt8.ofNat p.ttl]) ++ [UInt8.ofNat p.proto]) ++ be2 c) ++ be4 p.src) ++ be4 p.dst) := txt_append _ _
  have b9 : (txt (be4 p.dst)).size = 4 := txt_size _
  have g9 : (txt ((((((((([69] ++ [UInt8.ofNat p.tos]) ++ be2 (M)) ++ be2 p.id) ++ be2 p.bits) ++ [UInt8.ofNat p.ttl]) ++ [UInt8.ofNat p.proto]) ++ be2 c) ++ be4 p.src) ++ be4 p.dst)).size = 20 := txt_size _
  have hall : txt (p.hd c).bs = txt ((((((((([69] ++ [UInt8.ofNat p.tos]) ++ be2 (M)) ++ be2 p.id) ++ be2 p.bits) ++ [UInt8.ofNat p.ttl]) ++ [UInt8.ofNat p.proto]) ++ be2 c) ++ be4 p.src) ++ be4 p.dst) := by rw [← hM]; rfl
  rw [hf] at a1
  rw [hall]
  clear hf hall hk hbits hn hp hin hc z1 z2 z3 hM
  generalize txt ((((((((([69] ++ [UInt8.ofNat p.tos]) ++ be2 (M)) ++ be2 p.id) ++ be2 p.bits) ++ [UInt8.ofNat p.ttl]) ++ [UInt8.ofNat p.proto]) ++ be2 c) ++ be4 p.src) ++ be4 p.dst) = S9 at *
  generalize txt (((((((([69] ++ [UInt8.ofNat p.tos]) ++ be2 (M)) ++ be2 p.id) ++ be2 p.bits) ++ [UInt8.ofNat p.ttl]) ++ [UInt8.ofNat p.proto]) ++ be2 c) ++ be4 p.src) = S8 at *
  generalize txt ((((((([69] ++ [UInt8.ofNat p.tos]) ++ be2 (M)) ++ be2 p.id) ++ be2 p.bits) ++ [UInt8.ofNat p.ttl]) ++ [UInt8.ofNat p.proto]) ++ be2 c) = S7 at *
  generalize txt (((((([69] ++ [UInt8.ofNat p.tos]) ++ be2 (M)) ++ be2 p.id) ++ be2 p.bits) ++ [UInt8.ofNat p.ttl]) ++ [UInt8.ofNat p.proto]) = S6 at *
  generalize txt ((((([69] ++ [UInt8.ofNat p.tos]) ++ be2 (M)) ++ be2 p.id) ++ be2 p.bits) ++ [UInt8.ofNat p.ttl]) = S5 at *
  generalize txt (((([69] ++ [UInt8.ofNat p.tos]) ++ be2 (M)) ++ be2 p.id) ++ be2 p.bits) = S4 at *
  generalize txt ((([69] ++ [UInt8.ofNat p.tos]) ++ be2 (M)) ++ be2 p.id) = S3 at *
  generalize txt (([69] ++ [UInt8.ofNat p.tos]) ++ be2 (M)) = S2 at *
  generalize txt ([69] ++ [UInt8.ofNat p.tos]) = S1 at *
  generalize txt ([UInt8.ofNat p.tos]) = T1 at *
  generalize txt (be2 (M)) = T2 at *
  generalize txt (be2 p.id) = T3 at *
  generalize txt (be2 p.bits) = T4 at *
  generalize txt ([UInt8.ofNat p.ttl]) = T5 at *
  generalize txt ([UInt8.ofNat p.proto]) = T6 at *
  generalize txt (be2 c) = T7 at *
  generalize txt (be4 p.src) = T8 at *
  generalize txt (be4 p.dst) = T9 at *
  have HX := Lib.hid hx
  have HD := Lib.hid hd
  have HM := Lib.hid hm
  clear hx hd hm hB
  generalize hp1 : p.b.length = L at *
  generalize hp2 : txt p.b = tb at *
  go_enter Tryd.func25, Tryd.ntmps25
  go_upto_region 1 with fail
  generalize w.alloc (.cells #[.int .u32 p.tos, .int .u32 p.id, .bool p.df, .bool p.mf, .int .i64 p.off, .int .u32 p.ttl, .int .u32 p.proto, .int .u32 p.src, .int .u32 p.dst, .string (tb)] 34) = W0 at *
  generalize hnn : w.heap.size = n at *
  have HNN := Lib.hid hnn
  clear hnn
  have KS : Hid (∀ W, Below W0.heap.size W0 W → (W.cell? ⟨n, 0, none⟩ = some (.int .u32 p.tos) ∧ W.cell? ⟨n, 1, none⟩ = some (.int .u32 p.id) ∧ W.cell? ⟨n, 9, none⟩ = some (.string tb)) ∧ W.cell? ⟨n, 5, none⟩ = some (.int .u32 p.ttl) ∧ W.cell? ⟨n, 6, none⟩ = some (.int .u32 p.proto) ∧ W.cell? ⟨n, 7, none⟩ = some (.int .u32 p.src) ∧ W.cell? ⟨n, 8, none⟩ = some (.int .u32 p.dst)) := fun W h => by
    obtain ⟨e0, e1, e2, e3, e4, e5, e6, e7, e8, e9⟩ := (HX.out.below h).cells
    rw [hp2] at e9
    exact ⟨⟨e0, e1, e9⟩, e5, e6, e7, e8⟩
  obtain ⟨c0, c1, c2, c3, c4, c5, c6, c7, c8, c9⟩ := HX.out.cells
  rw [HD.out] at c2
  rw [HM.out] at c3
  clear HX hp1 hp2 c0 c1 c5 c6 c7 c8 c9
  go_upto_region 6 with fail
  clear c2 c3 c4 k1 k2 k4
  go_region_held_law (fun W => W.cell? ⟨n, 0, none⟩ = some (.int .u32 p.tos) ∧ W.cell? ⟨n, 1, none⟩ = some (.int .u32 p.id) ∧ W.cell? ⟨n, 9, none⟩ = some (.string tb))
    (first | assumption | exact (KS.out _ HL4.out).1 | exact (KS.out _ HL3.out).1 | exact (KS.out _ HL2.out).1 | exact (KS.out _ HL1.out).1 | exact (KS.out _ (below_drew W0)).1)
    (first
      | (go_at_call 41; (with_reducible refine (HT1.out _).mono ?_); rintro e w2 ⟨rfl, hl⟩; (have HL1 := Lib.hid ((below_drew W0).trans hl)); clear hl)
      | (go_at_call 41; (with_reducible refine (HT2.out _).mono ?_); rintro e w3 ⟨rfl, hl⟩; (have HL2 := Lib.hid (below_to HL1.out hl HL1.out.size)); clear hl)
      | (go_at_call 41; (with_reducible refine (HT3.out _).mono ?_); rintro e w4 ⟨rfl, hl⟩; (have HL3 := Lib.hid (below_to HL2.out hl HL2.out.size)); clear hl)
      | (go_at_call 41; (with_reducible refine (HT4.out _).mono ?_); rintro e w5 ⟨rfl, hl⟩; (have HL4 := Lib.hid (below_to HL3.out hl HL3.out.size)); clear hl))
  go_upto_region 7 with fail
  go_region_held_law (fun W => W.cell? ⟨n, 5, none⟩ = some (.int .u32 p.ttl) ∧ W.cell? ⟨n, 6, none⟩ = some (.int .u32 p.proto) ∧ W.cell? ⟨n, 7, none⟩ = some (.int .u32 p.src) ∧ W.cell? ⟨n, 8, none⟩ = some (.int .u32 p.dst))
    (first | assumption | exact (KS.out _ HL9.out).2 | exact (KS.out _ HL8.out).2 | exact (KS.out _ HL7.out).2 | exact (KS.out _ HL6.out).2 | exact (KS.out _ HL5.out).2 | exact (KS.out _ (below_to HL4.out (below_drew w5) HL4.out.size)).2)
    (first
      | (go_at_call 41; (with_reducible refine (HT5.out _).mono ?_); rintro e w6 ⟨rfl, hl⟩; (have HL5 := Lib.hid (below_to HL4.out ((below_drew w5).trans hl) HL4.out.size)); clear hl)
      | (go_at_call 41; (with_reducible refine (HT6.out _).mono ?_); rintro e w7 ⟨rfl, hl⟩; (have HL6 := Lib.hid (below_to HL5.out hl HL5.out.size)); clear hl)
      | (go_at_call 41; (with_reducible refine (HT7.out _).mono ?_); rintro e w8 ⟨rfl, hl⟩; (have HL7 := Lib.hid (below_to HL6.out hl HL6.out.size)); clear hl)
      | (go_at_call 41; (with_reducible refine (HT8.out _).mono ?_); rintro e w9 ⟨rfl, hl⟩; (have HL8 := Lib.hid (below_to HL7.out hl HL7.out.size)); clear hl)
      | (go_at_call 41; (with_reducible refine (HT9.out _).mono ?_); rintro e w10 ⟨rfl, hl⟩; (have HL9 := Lib.hid (below_to HL8.out hl HL8.out.size)); clear hl))
  go_wp2_with fail
  go_ret
  exact ⟨rfl, by rw [HNN.out]; exact ibelow_on' HB.out HL9.out⟩
end Go.Proofs.YtbielhdmikcngaaDoor
