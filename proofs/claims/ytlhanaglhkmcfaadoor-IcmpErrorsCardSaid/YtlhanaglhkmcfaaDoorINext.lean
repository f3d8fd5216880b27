/-
  What is proved: icmp's next by contract: a number, bytes that end too early, an error that is there already.
  Conditions: the bytes are fewer than 2^40.
-/
import Derived.Test.YtlhanaglhkmcfaaDoorIMsg
namespace Go.Proofs.YtlhanaglhkmcfaaDoor
open Go.RowKit

/-- The numbers' block, its reader and what is wrong. -/
structure Ns (w W : World) (K q : Nat) (ev : Value) (bs : List UInt8) : Prop where
  at_ : W.heap[K]? = some (.cells #[.pointer (some ⟨q, 0, none⟩), ev] 76)
  rs : Rs w W q bs
  new : w.heap.size ≤ K
  ne : K ≠ q
/-- The numbers' block where bytes ended too early. -/
structure NsE (w W : World) (K q : Nat) (ev : Value) : Prop where
  at_ : W.heap[K]? = some (.cells #[.pointer (some ⟨q, 0, none⟩), ev] 76)
  old : Below w.heap.size w W
  new : w.heap.size ≤ K
  told : ∃ b, ev = .iface 87 (.pointer (some ⟨b, 0, none⟩))
  chain : Chain W 2 [octetsWord] ev
section
variable {w W W' : World} {K q : Nat} {ev : Value} {bs r : List UInt8}
theorem Ns.lt (h : Ns w W K q ev bs) : K < W.heap.size := (Array.getElem?_eq_some_iff.1 h.at_).1
theorem ns_cells (h : W.heap[K]? = some (.cells #[.pointer (some ⟨q, 0, none⟩), ev] 76)) : W.cell? ⟨K, 0, none⟩ = some (.pointer (some ⟨q, 0, none⟩)) ∧ W.cell? ⟨K, 1, none⟩ = some ev ∧ W.frozen? ⟨K, 1, none⟩ = false := by
  refine ⟨?_, ?_, ?_⟩
  · rw [cell_of_row W K _ _ _ _ h]; rfl
  · rw [cell_of_row W K _ _ _ _ h]; rfl
  · simp [World.frozen?, h]
theorem ns_set (h : W.heap[K]? = some (.cells #[.pointer (some ⟨q, 0, none⟩), ev] 76)) (v : Value) : (W.setCell ⟨K, 1, none⟩ v).heap[K]? = some (.cells #[.pointer (some ⟨q, 0, none⟩), v] 76) := by
  rw [heap_set, h]
  simp
theorem Ns.read (h : Ns w W K q ev bs) (h1 : Rdr W' ⟨q, 0, none⟩ r) (h2 : Fr (· = ⟨q, 0, none⟩) W W') (hl : r.length ≤ 1099511627776) : Ns w W' K q ev r :=
  ⟨(h2.block K h.lt (fun a ha => by subst ha; exact fun e => h.ne e.symm)).trans h.at_, h.rs.step h1 h2 hl, h.new, h.ne⟩
theorem Ns.below (h : Ns w W K q ev bs) (hb : Below W.heap.size W W') : Ns w W' K q ev bs :=
  ⟨(hb.block K h.lt).trans h.at_, ⟨h.rs.rdr.below hb, below_to h.rs.old hb h.rs.old.size, h.rs.new, h.rs.len⟩, h.new, h.ne⟩
theorem Ns.put (h : Ns w W K q .nilIface bs) (v : Value) : Ns w (W.setCell ⟨K, 1, none⟩ v) K q v bs := by
  have c := (ns_cells h.at_).2.1
  refine ⟨ns_set h.at_ v, ⟨h.rs.rdr.fr (Fr.of_set (p := (· = ⟨K, 1, none⟩)) W _ v rfl) (fun e => h.ne (by injection e with e1; exact e1.symm)) (fun x u hu e => ?_), h.rs.old.setCell (p := ⟨K, 1, none⟩) h.new v, h.rs.new, h.rs.len⟩, h.new, h.ne⟩
  subst e
  rw [c] at hu
  cases hu
theorem Ns.putE (h : Ns w W K q .nilIface bs) {b : Nat} (hc : Chain W 2 [octetsWord] (.iface 87 (.pointer (some ⟨b, 0, none⟩)))) : NsE w (W.setCell ⟨K, 1, none⟩ (.iface 87 (.pointer (some ⟨b, 0, none⟩)))) K q (.iface 87 (.pointer (some ⟨b, 0, none⟩))) := by
  have c := (ns_cells h.at_).2.1
  refine ⟨ns_set h.at_ _, h.rs.old.setCell (p := ⟨K, 1, none⟩) h.new _, h.new, ⟨b, rfl⟩, hc.fr2 (Fr.of_set (p := (· = ⟨K, 1, none⟩)) W _ _ rfl) (fun a s ha e => ?_) (fun a T u ha e => ?_)⟩
  · subst ha
    rw [c] at e
    cases e
  · subst ha
    rw [c] at e
    cases e
end
set_option maxRecDepth 100000 in
set_option maxHeartbeats 1000000 in
theorem next8_ok {w W : World} {K q : Nat} {r : List UInt8} (n : Nat) (hn : n < 256) (h : Ns w W K q .nilIface (UInt8.ofNat n :: r)) :
    Calls Tryd.prog 33 #[.pointer (some ⟨K, 0, none⟩), .func (.func 34) #[] #[]] W fun e w' => e = .returned (.int .u8 n) ∧ Ns w w' K q .nilIface r := by
  have X : Hid (Calls Tryd.prog 34 #[.pointer (some ⟨q, 0, none⟩)] W fun e w' => e = .returned (.tuple #[.int .u8 n, .nilIface]) ∧ Ns w w' K q .nilIface r) := by
    refine (U8_ok _ _ _ _ h.rs.rdr h.rs.len).mono ?_
    rintro e w' ⟨rfl, h1, h2, _⟩
    have e1 : (UInt8.ofNat n).toNat = n := by rw [ofNat_lt]; omega
    rw [e1]
    exact ⟨rfl, h.read h1 h2 (by have := h.rs.len; simp at this; omega)⟩
  obtain ⟨c0, c1, z1⟩ := ns_cells h.at_
  clear h hn
  go_enter Tryd.func33, Tryd.ntmps33
  go_wp2_with fail
  refine X.out.mono ?_
  rintro e w1 ⟨rfl, h1⟩
  clear c0 c1 z1 X
  obtain ⟨c0, c1, z1⟩ := ns_cells h1.at_
  have H1 := Lib.hid (h1.put .nilIface)
  clear h1
  go_wp2_with fail
  go_ret
  exact ⟨rfl, H1.out⟩
set_option maxRecDepth 100000 in
set_option maxHeartbeats 1000000 in
theorem next8_short {w W : World} {K q : Nat} {bs : List UInt8} (h : Ns w W K q .nilIface bs) (hs : bs.length < 1) :
    Calls Tryd.prog 33 #[.pointer (some ⟨K, 0, none⟩), .func (.func 34) #[] #[]] W fun e w' => e = .returned (.int .u8 0) ∧ ∃ ev, NsE w w' K q ev := by
  have hb := below_al (Below.refl W.heap.size W) (wrongObj octetsWord 2)
  have X := Lib.hid (U8_short _ _ W h.rs.rdr hs)
  have HE := Lib.hid ((h.below hb).putE (chain_one W octetsWord 2))
  obtain ⟨c0, c1, z1⟩ := ns_cells h.at_
  obtain ⟨d0, d1, y1⟩ := ns_cells (h.below hb).at_
  clear h hs hb
  go_enter Tryd.func33, Tryd.ntmps33
  go_wp2_with fail
  refine X.out.mono ?_
  rintro e w1 ⟨rfl, h1⟩
  clear c0 c1 z1 X
  rw [h1] at HE d0 d1 y1
  clear h1
  go_wp2_with fail
  go_ret
  exact ⟨rfl, _, HE.out⟩
set_option maxRecDepth 100000 in
set_option maxHeartbeats 1000000 in
theorem next8_err {w W : World} {K q : Nat} {ev : Value} (h : NsE w W K q ev) :
    Calls Tryd.prog 33 #[.pointer (some ⟨K, 0, none⟩), .func (.func 34) #[] #[]] W fun e w' => e = .returned (.int .u8 0) ∧ W = w' := by
  obtain ⟨b, rfl⟩ := h.told
  obtain ⟨c0, c1, z1⟩ := ns_cells h.at_
  clear h
  go_enter Tryd.func33, Tryd.ntmps33
  go_wp2_with fail
  go_ret
  exact ⟨rfl, rfl⟩
set_option maxRecDepth 100000 in
set_option maxHeartbeats 1000000 in
theorem next16_ok {w W : World} {K q : Nat} {r : List UInt8} (n : Nat) (hn : n < 65536) (h : Ns w W K q .nilIface (be2 n ++ r)) :
    Calls Tryd.prog 35 #[.pointer (some ⟨K, 0, none⟩), .func (.func 36) #[] #[]] W fun e w' => e = .returned (.int .u16 n) ∧ Ns w w' K q .nilIface r := by
  have X : Hid (Calls Tryd.prog 36 #[.pointer (some ⟨q, 0, none⟩)] W fun e w' => e = .returned (.tuple #[.int .u16 n, .nilIface]) ∧ Ns w w' K q .nilIface r) := by
    refine (U16_ok _ _ _ _ _ h.rs.rdr h.rs.len).mono ?_
    rintro e w' ⟨rfl, h1, h2, _⟩
    have e1 : (((UInt8.ofNat (n / 256)).toNat : Int)) * 256 + (UInt8.ofNat n).toNat = (n : Int) := by rw [ofNat_lt, ofNat_lt]; omega
    rw [e1]
    exact ⟨rfl, h.read h1 h2 (by have := h.rs.len; simp [be2] at this; omega)⟩
  obtain ⟨c0, c1, z1⟩ := ns_cells h.at_
  clear h hn
  go_enter Tryd.func35, Tryd.ntmps35
  go_wp2_with fail
  refine X.out.mono ?_
  rintro e w1 ⟨rfl, h1⟩
  clear c0 c1 z1 X
  obtain ⟨c0, c1, z1⟩ := ns_cells h1.at_
  have H1 := Lib.hid (h1.put .nilIface)
  clear h1
  go_wp2_with fail
  go_ret
  exact ⟨rfl, H1.out⟩
set_option maxRecDepth 100000 in
set_option maxHeartbeats 1000000 in
theorem next16_short {w W : World} {K q : Nat} {bs : List UInt8} (h : Ns w W K q .nilIface bs) (hs : bs.length < 2) :
    Calls Tryd.prog 35 #[.pointer (some ⟨K, 0, none⟩), .func (.func 36) #[] #[]] W fun e w' => e = .returned (.int .u16 0) ∧ ∃ ev, NsE w w' K q ev := by
  have hb := below_al (Below.refl W.heap.size W) (wrongObj octetsWord 2)
  have X := Lib.hid (U16_short _ _ W h.rs.rdr hs)
  have HE := Lib.hid ((h.below hb).putE (chain_one W octetsWord 2))
  obtain ⟨c0, c1, z1⟩ := ns_cells h.at_
  obtain ⟨d0, d1, y1⟩ := ns_cells (h.below hb).at_
  clear h hs hb
  go_enter Tryd.func35, Tryd.ntmps35
  go_wp2_with fail
  refine X.out.mono ?_
  rintro e w1 ⟨rfl, h1⟩
  clear c0 c1 z1 X
  rw [h1] at HE d0 d1 y1
  clear h1
  go_wp2_with fail
  go_ret
  exact ⟨rfl, _, HE.out⟩
set_option maxRecDepth 100000 in
set_option maxHeartbeats 1000000 in
theorem next16_err {w W : World} {K q : Nat} {ev : Value} (h : NsE w W K q ev) :
    Calls Tryd.prog 35 #[.pointer (some ⟨K, 0, none⟩), .func (.func 36) #[] #[]] W fun e w' => e = .returned (.int .u16 0) ∧ W = w' := by
  obtain ⟨b, rfl⟩ := h.told
  obtain ⟨c0, c1, z1⟩ := ns_cells h.at_
  clear h
  go_enter Tryd.func35, Tryd.ntmps35
  go_wp2_with fail
  go_ret
  exact ⟨rfl, rfl⟩
set_option maxRecDepth 100000 in
set_option maxHeartbeats 1000000 in
theorem next32_ok {w W : World} {K q : Nat} {r : List UInt8} (n : Nat) (hn : n < 4294967296) (h : Ns w W K q .nilIface (be4 n ++ r)) :
    Calls Tryd.prog 37 #[.pointer (some ⟨K, 0, none⟩), .func (.func 38) #[] #[]] W fun e w' => e = .returned (.int .u32 n) ∧ Ns w w' K q .nilIface r := by
  have X : Hid (Calls Tryd.prog 38 #[.pointer (some ⟨q, 0, none⟩)] W fun e w' => e = .returned (.tuple #[.int .u32 n, .nilIface]) ∧ Ns w w' K q .nilIface r) := by
    refine (U32_ok _ _ _ _ _ _ _ h.rs.rdr h.rs.len).mono ?_
    rintro e w' ⟨rfl, h1, h2, _⟩
    have e1 : ((((UInt8.ofNat (n / 16777216)).toNat : Int) * 256 + (UInt8.ofNat (n / 65536)).toNat) * 256 + (UInt8.ofNat (n / 256)).toNat) * 256 + (UInt8.ofNat n).toNat = (n : Int) := by rw [ofNat_lt, ofNat_lt, ofNat_lt, ofNat_lt]; omega
    rw [e1]
    exact ⟨rfl, h.read h1 h2 (by have := h.rs.len; simp [be4] at this; omega)⟩
  obtain ⟨c0, c1, z1⟩ := ns_cells h.at_
  clear h hn
  go_enter Tryd.func37, Tryd.ntmps37
  go_wp2_with fail
  refine X.out.mono ?_
  rintro e w1 ⟨rfl, h1⟩
  clear c0 c1 z1 X
  obtain ⟨c0, c1, z1⟩ := ns_cells h1.at_
  have H1 := Lib.hid (h1.put .nilIface)
  clear h1
  go_wp2_with fail
  go_ret
  exact ⟨rfl, H1.out⟩
set_option maxRecDepth 100000 in
set_option maxHeartbeats 1000000 in
theorem next32_short {w W : World} {K q : Nat} {bs : List UInt8} (h : Ns w W K q .nilIface bs) (hs : bs.length < 4) :
    Calls Tryd.prog 37 #[.pointer (some ⟨K, 0, none⟩), .func (.func 38) #[] #[]] W fun e w' => e = .returned (.int .u32 0) ∧ ∃ ev, NsE w w' K q ev := by
  have hb := below_al (Below.refl W.heap.size W) (wrongObj octetsWord 2)
  have X := Lib.hid (U32_short _ _ W h.rs.rdr hs)
  have HE := Lib.hid ((h.below hb).putE (chain_one W octetsWord 2))
  obtain ⟨c0, c1, z1⟩ := ns_cells h.at_
  obtain ⟨d0, d1, y1⟩ := ns_cells (h.below hb).at_
  clear h hs hb
  go_enter Tryd.func37, Tryd.ntmps37
  go_wp2_with fail
  refine X.out.mono ?_
  rintro e w1 ⟨rfl, h1⟩
  clear c0 c1 z1 X
  rw [h1] at HE d0 d1 y1
  clear h1
  go_wp2_with fail
  go_ret
  exact ⟨rfl, _, HE.out⟩
set_option maxRecDepth 100000 in
set_option maxHeartbeats 1000000 in
theorem next32_err {w W : World} {K q : Nat} {ev : Value} (h : NsE w W K q ev) :
    Calls Tryd.prog 37 #[.pointer (some ⟨K, 0, none⟩), .func (.func 38) #[] #[]] W fun e w' => e = .returned (.int .u32 0) ∧ W = w' := by
  obtain ⟨b, rfl⟩ := h.told
  obtain ⟨c0, c1, z1⟩ := ns_cells h.at_
  clear h
  go_enter Tryd.func37, Tryd.ntmps37
  go_wp2_with fail
  go_ret
  exact ⟨rfl, rfl⟩
end Go.Proofs.YtlhanaglhkmcfaaDoor
