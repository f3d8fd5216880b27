/-
  What is proved: geneve's head.write and Encap by contract, with all of their outcomes.
  Conditions: fewer than a thousand options.
-/
import Derived.Test.YtnjohgfhagoppaaDoorGvDo
import Derived.Deep.RegionHeldLaw
namespace Go.Proofs.YtnjohgfhagoppaaDoor
open Go.RowKit

theorem gor1 (a : Nat) (ha : a < 64) : bits .or .u32 ((a : Int) * 16777216) 25944 = (gFirst (4 * a) false : Nat) := by
  have h := u32_or_nat (a * 16777216) 25944 (by omega) (by omega)
  have h2 := Nat.two_pow_add_eq_or_of_lt (i := 24) (b := 25944) (by omega) a
  rw [show (a : Int) * 16777216 = ((a * 16777216 : Nat) : Int) by omega, show (25944 : Int) = ((25944 : Nat) : Int) from rfl, h, show a * 16777216 = 2 ^ 24 * a by omega, ← h2]
  unfold gFirst
  simp
  omega
theorem gor2 (a : Nat) (ha : a < 64) : bits .or .u32 (gFirst (4 * a) false : Nat) 4194304 = (gFirst (4 * a) true : Nat) := by
  have h0 : gFirst (4 * a) false = 2 ^ 24 * a + 25944 := by unfold gFirst; simp; omega
  have h := u32_or_nat (2 ^ 24 * a + 25944) 4194304 (by omega) (by omega)
  have h2 := Nat.two_pow_add_eq_or_of_lt (i := 24) (b := 25944) (by omega) a
  have h3 := Nat.two_pow_add_eq_or_of_lt (i := 24) (b := 4220248) (by omega) a
  rw [h0, show (4194304 : Int) = ((4194304 : Nat) : Int) from rfl, h, h2, Nat.or_assoc, show 25944 ||| 4194304 = 4220248 by decide, ← h3]
  unfold gFirst
  simp
  omega
/-- A writer, and a box beside it that it does not write to. -/
structure WrtG (w : World) (q : Nat) (bs : List UInt8) (G : Nat) (o : Obj) (W : World) : Prop where
  ex : ∃ row, One w q bs row W ∧ q ≠ G ∧ row ≠ some G
  o : W.heap[G]? = some o
section
variable {w W W' : World} {q G : Nat} {bs cs : List UInt8} {o : Obj}
theorem WrtG.wrt (h : WrtG w q bs G o W) : Wrt w q bs W := by obtain ⟨row, h, _⟩ := h.ex; exact ⟨row, h⟩
theorem WrtG.below (h : WrtG w q bs G o W) (hb : Below W.heap.size W W') : WrtG w q bs G o W' := by
  obtain ⟨row, h1, h2, h3⟩ := h.ex
  exact ⟨⟨row, h1.below hb, h2, h3⟩, (hb.block G (Array.getElem?_eq_some_iff.1 h.o).1).trans h.o⟩
theorem WrtG.drew (h : WrtG w q bs G o W) : WrtG w q bs G o W.drew := h.below (below_drew W)
theorem Wrt.box (h : Wrt w q bs W) (o : Obj) : WrtG w q bs W.heap.size o (W.alloc o) := by
  obtain ⟨row, h⟩ := h
  refine ⟨⟨row, h.below ((Below.refl _ _).alloc (Nat.le_refl _) o), ?_, ?_⟩, heap_alloc_new W o⟩
  · have := h.a.at_; simp only at this; omega
  · intro e; have := h.a.row_lt _ e; omega
theorem WrtG.step (h : WrtG w q bs G o W) {f : FuncId} {args : Array Value} (hc : ∀ row, Wtr W ⟨q, 0, none⟩ row bs → Calls Tryd.prog f args W fun e w' => e = .returned (.pointer (some ⟨q, 0, none⟩)) ∧ Wrote ⟨q, 0, none⟩ row cs W w') :
    Calls Tryd.prog f args W fun e w' => e = .returned (.pointer (some ⟨q, 0, none⟩)) ∧ WrtG w q cs G o w' := by
  obtain ⟨row, h1, h2, h3⟩ := h.ex
  refine (hc row h1.a).mono ?_
  rintro e w' ⟨rfl, hw⟩
  obtain ⟨row', h4, h5⟩ := h1.put hw
  obtain ⟨_, _, _, k3⟩ := hw
  refine ⟨rfl, ⟨row', h4, h2, ?_⟩, ?_⟩
  · have hlt := (Array.getElem?_eq_some_iff.1 h.o).1
    rcases h5 with rfl | ⟨j, rfl, hj⟩
    · exact h3
    · intro e; injection e with e; omega
  · refine (k3.block G (Array.getElem?_eq_some_iff.1 h.o).1 fun x hx e => ?_).trans h.o
    rcases hx with rfl | hx
    · exact h2 e
    · rw [e] at hx; exact h3 hx.symm
theorem WrtG.bytes (h : WrtG w q bs G o W) (xs : List UInt8) (u : Value) (hx : Rd W u xs) (hL : bs.length + xs.length ≤ 1099511627776) :
    Calls Tryd.prog 31 #[.pointer (some ⟨q, 0, none⟩), u] W fun e w' => e = .returned (.pointer (some ⟨q, 0, none⟩)) ∧ WrtG w q (bs ++ xs) G o w' :=
  h.step fun row hr => WBytes_any _ row bs xs u W hr hx hL
theorem WrtG.u16 (h : WrtG w q bs G o W) (n : Nat) (hn : n < 65536) (hL : bs.length + 2 ≤ 1099511627776) :
    Calls Tryd.prog 43 #[.pointer (some ⟨q, 0, none⟩), .int .u16 n] W fun e w' => e = .returned (.pointer (some ⟨q, 0, none⟩)) ∧ WrtG w q (bs ++ be2 n) G o w' :=
  h.step fun row hr => WU16_any _ row bs n W hn hr hL
theorem WrtG.u8 (h : WrtG w q bs G o W) (n : Nat) (z : Int) (hz : z = (n : Int)) (hn : n < 256) (hL : bs.length + 1 ≤ 1099511627776) :
    Calls Tryd.prog 44 #[.pointer (some ⟨q, 0, none⟩), .int .u8 z] W fun e w' => e = .returned (.pointer (some ⟨q, 0, none⟩)) ∧ WrtG w q (bs ++ [UInt8.ofNat n]) G o w' := by
  subst hz
  exact h.step fun row hr => WU8_any _ row bs n W hn hr hL
theorem WrtG.u32 (h : WrtG w q bs G o W) (n : Nat) (z : Int) (hz : z = (n : Int)) (hn : n < 4294967296) (hL : bs.length + 4 ≤ 1099511627776) :
    Calls Tryd.prog 30 #[.pointer (some ⟨q, 0, none⟩), .int .u32 z] W fun e w' => e = .returned (.pointer (some ⟨q, 0, none⟩)) ∧ WrtG w q (bs ++ be4 n) G o w' := by
  subst hz
  exact h.step fun row hr => WU32_any _ row bs n W hn hr hL
end
def headObj (id : Int) (s : Int) (crit : Bool) : Obj := .cells #[.int .u32 id, .int .i64 s, .bool crit] 78
theorem WrtG.id {w W : World} {q G : Nat} {bs : List UInt8} {id s : Int} {crit : Bool} (h : WrtG w q bs G (headObj id s crit) W) : W.cell? ⟨G, 0, none⟩ = some (.int .u32 id) := by rw [cell_of_row W G 0 _ _ _ h.o]; rfl
theorem be2_ln (n : Nat) : (be2 n).length = 2 := rfl
theorem be4_len (n : Nat) : (be4 n).length = 4 := rfl
theorem gFirst_lt {a : Nat} (ha : a < 64) (crit : Bool) : gFirst (4 * a) crit < 4294967296 := by unfold gFirst; split <;> omega
set_option maxHeartbeats 4000000 in
theorem ghead_any (id a : Nat) (crit : Bool) (hid : id < 16777216) (ha : a < 64) (q : Nat) (bs : List UInt8) (w W : World) (h : Wrt w q bs W) (hL : bs.length ≤ 1000000) (z : Int) (hz : z = 4 * (a : Int)) :
    Calls Tryd.prog 42 #[.agg #[.int .u32 (id : Int), .int .i64 z, .bool crit], .pointer (some ⟨q, 0, none⟩)] W fun e w' => e = .returned (.tuple #[]) ∧ Wrt w q (bs ++ gHd id (4 * a) crit) w' := by
  subst hz
  have HG := Lib.hid (h.box (headObj id (4 * (a : Int)) crit))
  have HLb := Lib.hid hL
  have HF := Lib.hid (gFirst_lt ha crit)
  have HI := Lib.hid hid
  have h1 := gor1 a ha
  have h2 := gor2 a ha
  have e1 : ((id : Int) * 256 % 4294967296) = ((id * 256 : Nat) : Int) := by omega
  have hgoal : Hid (∀ w', Wrt w q (bs ++ be4 (gFirst (4 * a) crit) ++ be4 (id * 256)) w' → Wrt w q (bs ++ gHd id (4 * a) crit) w') := fun w' h => by unfold gHd; rwa [← List.append_assoc]
  clear h hL
  unfold headObj at HG
  cases crit
  all_goals
    go_enter Tryd.func42, Tryd.ntmps42
    go_upto_region 4 with fail
    generalize hW : W.alloc _ = W1 at HG
    clear hW
    generalize W.heap.size = G at *
    have X1 := Lib.hid (HG.out.drew.u32 _ _ rfl HF.out (by have := HLb.out; omega))
    have k0 := HG.out.id
    go_region_held_law (fun W' => W'.cell? ⟨G, 0, none⟩ = some (.int .u32 (id : Int)))
      (first | assumption | exact HG.out.drew.id | exact H1.out.id | exact H2.out.id)
      (first
        | (go_at_call 30; (with_reducible refine X1.out.mono ?_); rintro e w3 ⟨rfl, h3⟩; (have H1 := Lib.hid h3); clear h3)
        | (go_at_call 30; refine (H1.out.u32 (id * 256) _ e1 (by have := HI.out; omega) (by have := HLb.out; simp only [List.length_append, be4_len]; omega)).mono ?_; rintro e w4 ⟨rfl, h4⟩; (have H2 := Lib.hid h4); clear h4))
    all_goals
      go_wp2_with fail
      go_end0
      exact ⟨rfl, hgoal.out _ H2.out.wrt⟩
theorem frame_fits {n : Nat} (h : frameWrong n = 0) : 14 ≤ n ∧ n ≤ 9000 := by
  unfold frameWrong at h
  by_cases k1 : n < 14
  · rw [if_pos k1] at h; cases h
  · rw [if_neg k1] at h
    by_cases k2 : 9000 < n
    · rw [if_pos k2] at h; cases h
    · omega
def GEBad (n : Int) (w : World) (e : Ending) (w' : World) : Prop :=
  ∃ b, e = .returned (.tuple #[.slice none 0 0, .iface 92 (.pointer (some ⟨b, 0, none⟩))]) ∧ Chain w' n [gvWord] (.iface 92 (.pointer (some ⟨b, 0, none⟩))) ∧ Below w.heap.size w w'
theorem gencap_arg (id : Nat) (v u : Value) (w : World) (h : 16777216 ≤ id) :
    Calls Tryd.prog 16 #[.int .u32 (id : Int), v, u] w (GEBad 1 w) := by
  unfold GEBad
  have h1 : (16777216 : Int) ≤ id := by omega
  go_enter Tryd.func16, Tryd.ntmps16
  go_wp2_with fail
  refine (gwrap 1 [] _ _ _ rfl).mono ?_
  rintro e w4 ⟨b, rfl, hc, hb⟩
  have HC3 := Lib.hid hc
  have HB3 := Lib.hid hb
  clear hc hb
  go_wp2_with fail
  go_ret2
  exact ⟨_, rfl, HC3.out, HB3.out⟩
theorem gencap_opt (id : Nat) (A : Option Addr) (l : List Op) (c : Nat) (u : Value) (w : World) (h : id < 16777216) (ho : OpsAt w A l) (hn : l.length ≤ 1000) (hR : opRight l ≠ 0) :
    Calls Tryd.prog 16 #[.int .u32 (id : Int), .slice A l.length c, u] w (GEBad (opRight l : Nat) w) := by
  unfold GEBad
  have h1 : ¬ (16777216 : Int) ≤ id := by omega
  have HX := Lib.hid (gright_any A l c w ho hn)
  have HR := Lib.hid hR
  unfold RPost at HX
  clear ho hn hR
  go_enter Tryd.func16, Tryd.ntmps16
  go_wp2_with fail
  refine HX.out.mono ?_
  rintro e w2 (⟨h0, _, _⟩ | ⟨_, b, rfl, hc, hb⟩)
  · exact absurd h0 HR.out
  · have HC3 := Lib.hid hc
    have HB3 := Lib.hid hb
    clear hc hb
    go_wp2_with fail
    go_ret2
    exact ⟨_, rfl, HC3.out, HB3.out⟩
theorem gencap_frame (id : Nat) (A : Option Addr) (l : List Op) (c : Nat) (F : Option Addr) (n cf : Nat) (w : World) (h : id < 16777216) (ho : OpsAt w A l) (hn : l.length ≤ 1000) (hR : opRight l = 0) (hw : frameWrong n ≠ 0) :
    Calls Tryd.prog 16 #[.int .u32 (id : Int), .slice A l.length c, .slice F n cf] w (GEBad (frameWrong n : Nat) w) := by
  unfold GEBad
  have h1 : ¬ (16777216 : Int) ≤ id := by omega
  have HX := Lib.hid (gright_any A l c w ho hn)
  have HR := Lib.hid hR
  have HI : Hid (∀ W, _) := fun W => xright_bad F n cf hw W
  unfold RPost at HX
  clear ho hn hR hw
  go_enter Tryd.func16, Tryd.ntmps16
  go_wp2_with fail
  refine HX.out.mono ?_
  rintro e w2 (⟨_, rfl, hb⟩ | ⟨h0, _⟩)
  · have HB2 := Lib.hid hb
    clear hb
    go_wp2_with fail
    refine (HI.out w2).mono ?_
    rintro e w' ⟨rfl, rfl⟩
    go_wp2_with fail
    refine (gwrap _ [] _ _ _ rfl).mono ?_
    rintro e w4 ⟨b, rfl, hc, hb⟩
    have HC3 := Lib.hid hc
    have HB3 := Lib.hid (below_to HB2.out hb HB2.out.size)
    clear hc hb
    go_wp2_with fail
    go_ret2
    exact ⟨_, rfl, HC3.out, HB3.out⟩
  · exact absurd HR.out h0
theorem opRight_zero {l : List Op} (h : opRight l = 0) : opAll l = true ∧ opSize l ≤ 252 := by
  unfold opRight at h
  by_cases h1 : opAll l = true
  · rw [if_pos h1] at h
    by_cases h2 : opSize l ≤ 252
    · exact ⟨h1, h2⟩
    · rw [if_neg h2] at h; cases h
  · rw [if_neg h1] at h; cases h
theorem opBytes_take_succ (l : List Op) (k : Nat) (x : Op) (h : l[k]? = some x) : opBytes (l.take (k + 1)) = opBytes (l.take k) ++ x.bytes := by
  unfold opBytes
  rw [List.take_add_one, h, List.flatMap_append]
  simp
theorem opBytes_take_le (l : List Op) (h : opAll l = true) (k : Nat) : (opBytes (l.take k)).length ≤ 128 * l.length := by rw [opBytes_len]; exact opSize_take_le l h k
def optObj (x : Op) (v : Value) : Obj := .cells #[.int .u16 x.c, .int .u8 x.t, v] 50
theorem WrtG.opt {w W : World} {q G : Nat} {bs : List UInt8} {x : Op} {v : Value} (h : WrtG w q bs G (optObj x v) W) : W.cell? ⟨G, 0, none⟩ = some (.int .u16 x.c) ∧ W.cell? ⟨G, 1, none⟩ = some (.int .u8 x.t) ∧ W.cell? ⟨G, 2, none⟩ = some v :=
  ⟨by rw [cell_of_row W G 0 _ _ _ h.o]; rfl, by rw [cell_of_row W G 1 _ _ _ h.o]; rfl, by rw [cell_of_row W G 2 _ _ _ h.o]; rfl⟩
theorem by_four (n : Nat) (h : n ≤ 124) : IntKind.u8.wrap (IntKind.i64.wrap ((n : Int) / 4)) = ((n / 4 : Nat) : Int) := by
  have a1 : IntKind.u8.bits = 8 := rfl
  have a2 : IntKind.u8.signed = false := rfl
  have e : IntKind.i64.wrap ((n : Int) / 4) = (n : Int) / 4 := by rw [IntKind.wrap_i64]; omega
  rw [e]
  simp [IntKind.wrap, a1, a2]
  omega
set_option maxHeartbeats 4000000 in
theorem gencap_ok (id : Nat) (A : Option Addr) (l : List Op) (c : Nat) (F : Option Addr) (cf : Nat) (f : List UInt8) (w : World) (h : id < 16777216) (ho : OpsAt w A l) (hfit : ∀ x ∈ l, x.Fit) (hn : l.length ≤ 1000) (hR : opRight l = 0)
    (hr : Rd w (.slice F f.length cf) f) (k1 : 14 ≤ f.length) (k2 : f.length ≤ 9000) :
    Calls Tryd.prog 16 #[.int .u32 (id : Int), .slice A l.length c, .slice F f.length cf] w (EGood (gPut id l f) w) := by
  unfold EGood
  have h1 : ¬ (16777216 : Int) ≤ id := by omega
  obtain ⟨hall, hsz⟩ := opRight_zero hR
  have HX := Lib.hid (gright_any A l c w ho hn)
  have HR := Lib.hid hR
  have HI : Hid (∀ W, _) := fun W => xright_ok F f.length cf k1 k2 W
  have HO := Lib.hid ho
  have HF := Lib.hid hfit
  have HA := Lib.hid hall
  have HZ := Lib.hid hsz
  have HD := Lib.hid hr
  have HN := Lib.hid hn
  have HID := Lib.hid h
  have HK := Lib.hid (And.intro k1 k2)
  unfold RPost at HX
  generalize hKK : (gPut id l f).length = KK
  have HKK : Hid ((gHd id (opSize l) (opCrit l) ++ opBytes l ++ f).length = KK) := hKK
  clear ho hn hR hr k1 k2 hall hsz hfit h hKK
  go_enter Tryd.func16, Tryd.ntmps16
  go_wp2_with fail
  refine HX.out.mono ?_
  rintro e w1 (⟨_, rfl, hb⟩ | ⟨h0, _⟩)
  · have HB1 := Lib.hid hb
    clear hb HX
    go_wp2_with fail
    refine (HI.out w1).mono ?_
    rintro e w' ⟨rfl, rfl⟩
    have HW := Lib.hid (Wrt.new w1)
    clear HI
    have XS : Hid (∀ W, Below w.heap.size w W → _) := fun W hW => gsize_any A l c W (HO.out.below hW) HA.out HN.out
    have XC : Hid (∀ W, Below w.heap.size w W → _) := fun W hW => gcontains_any A l c W (HO.out.below hW) HF.out (by have := HN.out; omega)
    go_wp2_with fail
    generalize hW : w1.alloc _ = W1 at HW ⊢
    clear hW
    refine (XS.out _ (below_to HB1.out HW.out.old HB1.out.size)).mono ?_
    rintro e w2 ⟨rfl, hb⟩
    have HW2 := Lib.hid (HW.out.below hb)
    clear HW hb
    go_wp2_with fail
    refine (XC.out _ (below_to HB1.out HW2.out.old HB1.out.size)).mono ?_
    rintro e w3 ⟨rfl, hb⟩
    have HW3 := Lib.hid (HW2.out.below hb)
    clear HW2 hb
    have h4 := opSize_four l HA.out
    have XH := Lib.hid (ghead_any id (opSize l / 4) (opCrit l) HID.out (by have := HZ.out; omega) _ [] w1 w3 HW3.out (by simp) (opSize l : Nat) (by omega))
    rw [show 4 * (opSize l / 4) = opSize l by omega, List.nil_append] at XH
    clear HW3 XS XC h4
    go_wp2_with fail
    refine XH.out.mono ?_
    rintro e w4 ⟨rfl, h4⟩
    have H4 := Lib.hid h4
    clear h4 XH
    go_wp2_with fail
    generalize w1.heap.size = q at *
    go_loopw [12, 39] (fun _ s39 wr => ∃ k : Nat, s39 = .int .i64 (k : Int) ∧ k ≤ l.length ∧ Wrt w1 q (gHd id (opSize l) (opCrit l) ++ opBytes (l.take k)) wr) (fun _ s39 _ => l.length - (intOf s39).toNat)
    case atStart => exact ⟨0, rfl, Nat.zero_le _, by simpa [opBytes] using H4.out⟩
    case round =>
      obtain ⟨k, rfl, hk, hWr⟩ := hrel
      have HWr := Lib.hid hWr
      clear hWr H4
      by_cases hlt : k < l.length
      · have q1 : decide ((k : Int) < (l.length : Int)) = true := decide_eq_true (by omega)
        obtain ⟨x, hx⟩ : ∃ x, l[k]? = some x := ⟨l[k], List.getElem?_eq_getElem hlt⟩
        obtain ⟨g, o, B, bc, rfl, ha, _, hrx⟩ := HO.out k x hx
        obtain ⟨c0, c1, c2⟩ := ha.below (below_to HB1.out HWr.out.old HB1.out.size)
        have hfx := HF.out x (List.mem_of_getElem? hx)
        have hgx := opAll_get HA.out hx
        have HS := Lib.hid (opBytes_take_succ l k x hx)
        have HL := Lib.hid (opBytes_take_le l HA.out k)
        have HFX : Hid ((x.c < 65536 ∧ x.t < 256) ∧ x.b.length ≤ 124 ∧ x.b.length % 4 = 0) := ⟨hfx, hgx⟩
        have hn := HN.out
        have HBx := Lib.hid (HWr.out.box (optObj x (.slice B x.b.length bc)))
        have HRX := Lib.hid hrx
        unfold optObj at HBx
        clear hx hrx hfx hgx
        go_upto_region 14 with fail
        generalize hW : wr.alloc _ = W2 at HBx
        clear hW
        generalize wr.heap.size = G at *
        have k0 := HBx.out.opt
        have hL0 : Hid ((gHd id (opSize l) (opCrit l) ++ opBytes (l.take k)).length ≤ 200000) := by show _ ≤ _; rw [List.length_append, gHd_len]; have := HL.out; omega
        have HST : Hid (∀ W', Wrt w1 q (gHd id (opSize l) (opCrit l) ++ opBytes (l.take k) ++ be2 x.c ++ [UInt8.ofNat x.t] ++ [UInt8.ofNat (x.b.length / 4)] ++ x.b) W' → Wrt w1 q (gHd id (opSize l) (opCrit l) ++ opBytes (l.take (k + 1))) W') := fun W' h => by
          rw [HS.out]
          unfold Op.bytes
          simp only [List.append_assoc] at h ⊢
          exact h
        generalize gHd id (opSize l) (opCrit l) ++ opBytes (l.take k) = bs0 at *
        clear c0 c1 c2
        go_region_held_law (fun W' => W'.cell? ⟨G, 0, none⟩ = some (.int .u16 x.c) ∧ W'.cell? ⟨G, 1, none⟩ = some (.int .u8 x.t) ∧ W'.cell? ⟨G, 2, none⟩ = some (.slice B x.b.length bc))
          (first | assumption | exact HBx.out.drew.opt | exact H1.out.opt | exact H2.out.opt | exact H3.out.opt | exact H4.out.opt)
          (first
            | (go_at_call 43; (with_reducible refine (HBx.out.drew.u16 x.c HFX.out.1.1 (by have := hL0.out; omega)).mono ?_); rintro e w3 ⟨rfl, h3⟩; (have H1 := Lib.hid h3); clear h3)
            | (go_at_call 44; (with_reducible refine (H1.out.u8 x.t _ rfl HFX.out.1.2 (by have := hL0.out; simp only [List.length_append, be2_ln]; omega)).mono ?_); rintro e w4 ⟨rfl, h4⟩; (have H2 := Lib.hid h4); clear h4)
            | (go_at_call 44; refine (H2.out.u8 (x.b.length / 4) _ (by_four _ HFX.out.2.1) (by have := HFX.out.2; omega) (by have := hL0.out; simp only [List.length_append, be2_ln, List.length_singleton]; omega)).mono ?_; rintro e w5 ⟨rfl, h5⟩; (have H3 := Lib.hid h5); clear h5)
            | (go_at_call 31; refine (H3.out.bytes x.b _ (HRX.out.below (below_to HB1.out H3.out.wrt.old HB1.out.size)) (by have := hL0.out; have := HFX.out.2; simp only [List.length_append, be2_ln, List.length_singleton]; omega)).mono ?_; rintro e w6 ⟨rfl, h6⟩; (have H4 := Lib.hid h6); clear h6))
        all_goals
          go_wp2_with fail
          exact ⟨⟨k + 1, by simp, by omega, HST.out _ H4.out.wrt⟩, by simp [intOf]; omega⟩
      · have q1 : decide ((k : Int) < (l.length : Int)) = false := decide_eq_false (by omega)
        have hkl : k = l.length := by omega
        have hw := HWr.out
        rw [hkl, List.take_length] at hw
        have HW5 := Lib.hid hw
        have HD5 := Lib.hid (HD.out.below (below_to HB1.out hw.old HB1.out.size))
        have hle : (gHd id (opSize l) (opCrit l) ++ opBytes l).length = 8 + opSize l := by rw [List.length_append, gHd_len, opBytes_len]
        have HLE := Lib.hid hle
        clear HWr hw hkl hk hle
        go_wp2_with fail
        refine (HW5.out.bytes f _ HD5.out (by have := HLE.out; have := HZ.out; have := HK.out.2; omega)).mono ?_
        rintro e w6 ⟨rfl, h6⟩
        have H6 := Lib.hid h6
        clear h6
        go_wp2_with fail
        refine (H6.out.finish (by have := HLE.out; have := HZ.out; have := HK.out.2; rw [List.length_append]; omega)).mono ?_
        rintro e w7 ⟨b, he, h7, h8, h9⟩
        rw [HKK.out] at he
        subst he
        have H7 := Lib.hid (And.intro h7 (And.intro h8 h9))
        clear h7 h8 h9
        go_wp2_with fail
        go_ret2
        exact ⟨b, rfl, Nat.le_trans HB1.out.size H7.out.1, H7.out.2.1, below_to HB1.out H7.out.2.2 HB1.out.size⟩
  · exact absurd HR.out h0
theorem gencap_any (id : Nat) (A : Option Addr) (l : List Op) (c : Nat) (F : Option Addr) (cf : Nat) (f : List UInt8) (w : World) (ho : OpsAt w A l) (hfit : ∀ x ∈ l, x.Fit) (hn : l.length ≤ 1000) (hr : Rd w (.slice F f.length cf) f) :
    Calls Tryd.prog 16 #[.int .u32 (id : Int), .slice A l.length c, .slice F f.length cf] w fun e w' => (geCode id l f.length ≠ 0 ∧ GEBad (geCode id l f.length : Nat) w e w') ∨ (geCode id l f.length = 0 ∧ EGood (gPut id l f) w e w') := by
  unfold geCode
  by_cases h1 : 16777216 ≤ id
  · rw [if_pos h1]
    exact (gencap_arg id _ _ w h1).mono fun e w' h => .inl ⟨by decide, h⟩
  · rw [if_neg h1]
    by_cases h2 : opRight l = 0
    · rw [if_pos h2]
      by_cases h3 : frameWrong f.length = 0
      · have h4 := frame_fits h3
        exact (gencap_ok id A l c F cf f w (by omega) ho hfit hn h2 hr h4.1 h4.2).mono fun e w' h => .inr ⟨h3, h⟩
      · exact (gencap_frame id A l c F f.length cf w (by omega) ho hn h2 h3).mono fun e w' h => .inl ⟨h3, h⟩
    · rw [if_neg h2]
      exact (gencap_opt id A l c _ w (by omega) ho hn h2).mono fun e w' h => .inl ⟨h2, h⟩
end Go.Proofs.YtnjohgfhagoppaaDoor
