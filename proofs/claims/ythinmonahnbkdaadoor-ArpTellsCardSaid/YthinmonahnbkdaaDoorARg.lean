/-
  What is proved: the object that arp.Parse reads with, in facts; octets.Reader's Bytes, U16 and U32 beside it.
  Conditions: the bytes are fewer than 2^40.
-/
import Derived.Test.YthinmonahnbkdaaDoorAPkt
namespace Go.Proofs.YthinmonahnbkdaaDoor
open Go.RowKit

/-- The cells of arp.reading. -/
def rgRow (n : Nat) (hd : List UInt8) (p : Pkt) : Array Value := #[.pointer (some ⟨n + 2, 0, none⟩), .string (txt hd), .int .u16 p.op, .int .u8 p.sha.a.toNat, .int .u8 p.sha.b.toNat, .int .u8 p.sha.c.toNat, .int .u8 p.sha.d.toNat, .int .u8 p.sha.e.toNat, .int .u8 p.sha.f.toNat, .int .u32 p.spa,
  .int .u8 p.tha.a.toNat, .int .u8 p.tha.b.toNat, .int .u8 p.tha.c.toNat, .int .u8 p.tha.d.toNat, .int .u8 p.tha.e.toNat, .int .u8 p.tha.f.toNat, .int .u32 p.tpa]
/-- The six steps, as they stand in the row that untilWrong is handed. -/
def rgFns (n : Nat) : Array Value := #[.func (.func 14) #[.pointer (some ⟨n + 3, 0, none⟩)] #[], .func (.func 15) #[.pointer (some ⟨n + 3, 0, none⟩)] #[],
  .func (.func 16) #[.pointer (some ⟨n + 3, 0, none⟩)] #[], .func (.func 17) #[.pointer (some ⟨n + 3, 0, none⟩)] #[],
  .func (.func 18) #[.pointer (some ⟨n + 3, 0, none⟩)] #[], .func (.func 19) #[.pointer (some ⟨n + 3, 0, none⟩)] #[]]

/-- Parse's own blocks: the answer's (n), the bytes (n + 1), the reader (n + 2), what was read so far (n + 3), the steps (n + 4). -/
structure Rg (w : World) (n : Nat) (rs hd : List UInt8) (pk : Pkt) (W : World) : Prop where
  rdr : RdrG W ⟨n + 2, 0, none⟩ (n + 1) rs
  box : W.heap[n + 3]? = some (.cells (rgRow n hd pk) 50)
  fns : W.heap[n + 4]? = some (.cells (rgFns n) 52)
  res : PktAt W n noPkt
  old : Below n w W
  few : rs.length ≤ 1099511627776
section
variable {w W W' : World} {n : Nat} {rs rs' hd hd' : List UInt8} {pk pk' : Pkt}
theorem Rg.lt (h : Rg w n rs hd pk W) : n + 4 < W.heap.size := (Array.getElem?_eq_some_iff.1 h.fns).1
theorem Rg.below (h : Rg w n rs hd pk W) (hb : Below W.heap.size W W') : Rg w n rs hd pk W' :=
  have hl := h.lt
  ⟨h.rdr.below hb, (hb.block _ (by omega)).trans h.box, (hb.block _ hl).trans h.fns, h.res.below hb, below_to h.old hb (by omega), h.few⟩
theorem Rg.read (h : Rg w n rs hd pk W) (hf : Fr (· = ⟨n + 2, 0, none⟩) W W') (hr : RdrG W' ⟨n + 2, 0, none⟩ (n + 1) rs') (hl : rs'.length ≤ rs.length) : Rg w n rs' hd pk W' :=
  have hz := h.lt
  have hk : ∀ k, k < W.heap.size → k ≠ n + 2 → W'.heap[k]? = W.heap[k]? := fun k h1 h2 => hf.block k h1 (fun a ha e => h2 (by subst ha; exact e.symm))
  ⟨hr, (hk _ (by omega) (by omega)).trans h.box, (hk _ hz (by omega)).trans h.fns, (hk _ (by omega) (by omega)).trans h.res, h.old.trans (hf.below (by omega) (fun x hx => by subst hx; simp)), Nat.le_trans hl h.few⟩
theorem Rg.row (h : Rg w n rs hd pk W) (hd' : List UInt8) (pk' : Pkt) : Rg w n rs hd' pk' (W.setRow (n + 3) (rgRow n hd' pk')) := by
  have hz := h.lt
  refine ⟨h.rdr.fr (Fr.of_row W (n + 3) _) (fun e => ?_) (fun x hx e => ?_), setRow_heap _ _ _ _ _ _ h.box, ?_, ?_, ?_, h.few⟩
  · have e' : n + 2 = n + 3 := e
    omega
  · have e' : x.block = n + 3 := hx
    omega
  · rw [setRow_other _ _ _ (by omega)]; exact h.fns
  · unfold PktAt; rw [setRow_other _ _ _ (by omega)]; exact h.res
  · exact h.old.trans ((Fr.of_row W (n + 3) _).below (by omega) (fun x hx => by have e' : x.block = n + 3 := hx; omega))
theorem Rg.cell (h : Rg w n rs hd pk W) (i : Nat) : W.cell? ⟨n + 3, i, none⟩ = (rgRow n hd pk)[i]? := by
  rw [cell_of_row W (n + 3) _ _ _ _ h.box]
theorem Rg.free (h : Rg w n rs hd pk W) (i : Nat) : W.frozen? ⟨n + 3, i, none⟩ = false := by
  have h' := h.box
  simp [World.frozen?, h']
theorem Rg.fn (h : Rg w n rs hd pk W) (i : Nat) : W.cell? ⟨n + 4, i, none⟩ = (rgFns n)[i]? := by
  rw [cell_of_row W (n + 4) _ _ _ _ h.fns]
theorem Rg.set (h : Rg w n rs hd pk W) (i : Nat) (v : Value) (hv : (rgRow n hd pk).setIfInBounds i v = rgRow n hd' pk') : Rg w n rs hd' pk' (W.setCell ⟨n + 3, i, none⟩ v) := by
  rw [setCell_eq_setRow W (n + 3) i _ _ _ v h.box, hv]
  exact h.row hd' pk'
theorem block_set (W : World) {b g : Nat} (i : Nat) (v : Value) {o : Obj} (h : W.heap[b]? = some o) (hb : b ≠ g) : (W.setCell ⟨g, i, none⟩ v).heap[b]? = some o := by
  rw [← h]
  unfold World.setCell
  simp only [Array.getElem?_modify]
  rw [if_neg (by omega)]
/-- An error of octets in a block. -/
theorem chain_obj {W : World} {b : Nat} {s : ByteArray} {m : Int} (h : W.heap[b]? = some (wrongObj s m)) : Chain W m [s] (.iface 76 (.pointer (some ⟨b, 0, none⟩))) := by
  unfold wrongObj at h
  refine ⟨b, .iface 44 (.int .i64 m), rfl, ?_, ?_, rfl⟩ <;> (rw [cell_of_row W b _ _ _ _ h]; rfl)

theorem Rg.bytes (h : Rg w n rs hd pk W) (h6 : 6 ≤ rs.length) :
    Calls Tryd.prog 29 #[.pointer (some ⟨n + 2, 0, none⟩), .int .i64 6] W fun e w' => ∃ b, e = .returned (.tuple #[.slice (some ⟨b, 0, none⟩) 6 6, .nilIface]) ∧ Rg w n (rs.drop 6) hd pk w' ∧ w'.heap[b]? = some (bytesObj (rs.take 6)) ∧ n + 5 ≤ b := by
  have hz := h.lt
  refine (Bytes_at ⟨n + 2, 0, none⟩ (n + 1) (by simp) rs 6 W h.rdr h6 h.few).mono ?_
  rintro e w' ⟨rfl, v, hr, rfl⟩
  have hs : (W.setCell ⟨n + 2, 0, none⟩ v).heap.size = W.heap.size := by simp
  refine ⟨W.heap.size, rfl, (h.read (Fr.of_set W _ v rfl) hr (by simp)).below (below_al (Below.refl _ _) _), ?_, by omega⟩
  rw [← hs]
  exact bytesObj_new _ _
theorem Rg.bytes_short (h : Rg w n rs hd pk W) (h6 : rs.length < 6) :
    Calls Tryd.prog 29 #[.pointer (some ⟨n + 2, 0, none⟩), .int .i64 6] W fun e w' => ∃ b, e = .returned (.tuple #[.slice none 0 0, .iface 76 (.pointer (some ⟨b, 0, none⟩))]) ∧ Rg w n rs hd pk w' ∧ w'.heap[b]? = some (wrongObj octetsWord 2) ∧ n + 5 ≤ b := by
  have hz := h.lt
  refine (Bytes_short ⟨n + 2, 0, none⟩ rs 6 W h.rdr.rdr (by omega)).mono ?_
  rintro e w' ⟨rfl, rfl⟩
  exact ⟨W.heap.size, rfl, h.below (below_al (Below.refl _ _) _), heap_alloc_new W _, by omega⟩
theorem Rg.u16 {a b : UInt8} {r : List UInt8} (h : Rg w n (a :: b :: r) hd pk W) :
    Calls Tryd.prog 30 #[.pointer (some ⟨n + 2, 0, none⟩)] W fun e w' => e = .returned (.tuple #[.int .u16 ((a.toNat : Int) * 256 + b.toNat), .nilIface]) ∧ Rg w n r hd pk w' := by
  refine (U16_at ⟨n + 2, 0, none⟩ (n + 1) (by simp) a b r W h.rdr h.few).mono ?_
  rintro e w' ⟨rfl, hr, v, rfl⟩
  exact ⟨rfl, h.read (Fr.of_set W _ v rfl) hr (by simp only [List.length_cons]; omega)⟩
theorem Rg.u16_short (h : Rg w n rs hd pk W) (h6 : rs.length < 2) :
    Calls Tryd.prog 30 #[.pointer (some ⟨n + 2, 0, none⟩)] W fun e w' => ∃ b, e = .returned (.tuple #[.int .u16 0, .iface 76 (.pointer (some ⟨b, 0, none⟩))]) ∧ Rg w n rs hd pk w' ∧ w'.heap[b]? = some (wrongObj octetsWord 2) ∧ n + 5 ≤ b := by
  have hz := h.lt
  refine (U16_short ⟨n + 2, 0, none⟩ rs W h.rdr.rdr h6).mono ?_
  rintro e w' ⟨rfl, rfl⟩
  exact ⟨W.heap.size, rfl, h.below (below_al (Below.refl _ _) _), heap_alloc_new W _, by omega⟩
end

theorem read32_at (p : Addr) (g : Nat) (hpg : p.block ≠ g) (b0 b1 b2 b3 : UInt8) (r : List UInt8) (w : World) (h : RdrG w p g (b0 :: b1 :: b2 :: b3 :: r)) (hL : (b0 :: b1 :: b2 :: b3 :: r).length ≤ 1099511627776) :
    Calls Tryd.prog 43 #[.pointer (some p), .int .i64 4] w fun e w' => e = .returned (.tuple #[.int .u32 ((((b0.toNat : Int) * 256 + b1.toNat) * 256 + b2.toNat) * 256 + b3.toNat), .nilIface]) ∧ RdrG w' p g r ∧ ∃ v, w.setCell p v = w' := by
  obtain ⟨A, hc, hz, hr⟩ := h
  obtain ⟨o, rfl, hi⟩ := hr (by simp)
  have hcut := RdrG.cut 4 (by simp) hpg hc hz (fun _ => ⟨o, rfl, hi⟩)
  have hcs : ∀ i u, (b0 :: b1 :: b2 :: b3 :: r)[i]? = some u → (w.setCell p (.slice (cutA (some ⟨g, o, none⟩) (b0 :: b1 :: b2 :: b3 :: r).length 4) ((b0 :: b1 :: b2 :: b3 :: r).length - 4) ((b0 :: b1 :: b2 :: b3 :: r).length - 4))).cell? ⟨g, o + i, none⟩ = some (B8 u) := by
    intro i u hu
    rw [World.cell?_setCell_other _ _ _ _ (fun e => hpg (by rw [e]))]; exact hi i u hu
  have hc0 := hcs 0 b0 rfl
  have hc1 := hcs 1 b1 rfl
  have hc2 := hcs 2 b2 rfl
  have hc3 := hcs 3 b3 rfl
  have HT := Lib.hid (take_ok p (some ⟨g, o, none⟩) (b0 :: b1 :: b2 :: b3 :: r).length 4 w hc hz (by simp) hL)
  have HR := Lib.hid hcut
  clear hc hz hr hi hcut hL hcs
  generalize hW : w.setCell p (.slice (cutA (some ⟨g, o, none⟩) (b0 :: b1 :: b2 :: b3 :: r).length 4) ((b0 :: b1 :: b2 :: b3 :: r).length - 4) ((b0 :: b1 :: b2 :: b3 :: r).length - 4)) = W at *
  have HW : Hid (∃ v, w.setCell p v = W) := ⟨_, hW⟩
  clear hW
  simp only [Nat.add_zero, B8] at hc0
  simp only [B8] at hc1
  simp only [B8] at hc2
  simp only [B8] at hc3
  have hb0 := b0.toNat_lt
  have hb1 := b1.toNat_lt
  have hb2 := b2.toNat_lt
  have hb3 := b3.toNat_lt
  have o0 := or_zero b0.toNat (by omega) (by omega)
  have o1 := or_shiftI ((b0.toNat : Int)) b1.toNat (by omega) (by omega) (by omega) (by omega)
  have o2 := or_shiftI (((b0.toNat : Int) * 256 + b1.toNat)) b2.toNat (by omega) (by omega) (by omega) (by omega)
  have o3 := or_shiftI ((((b0.toNat : Int) * 256 + b1.toNat) * 256 + b2.toNat)) b3.toNat (by omega) (by omega) (by omega) (by omega)
  go_enter Tryd.func43, Tryd.ntmps43
  go_wp2_with fail
  refine HT.out.mono ?_
  rintro e w' ⟨rfl, rfl⟩
  go_wp2_with fail
  refine wp_loop_rounds 5 ?_
  rw [rounds_succ]
  go_wp2_with fail
  rw [rounds_succ]
  go_wp2_with fail
  rw [rounds_succ]
  go_wp2_with fail
  rw [rounds_succ]
  go_wp2_with fail
  rw [rounds_succ]
  go_wp2_with fail
  go_ret2
  exact ⟨rfl, HR.out, HW.out⟩
theorem U32_at (p : Addr) (g : Nat) (hpg : p.block ≠ g) (b0 b1 b2 b3 : UInt8) (r : List UInt8) (w : World) (h : RdrG w p g (b0 :: b1 :: b2 :: b3 :: r)) (hL : (b0 :: b1 :: b2 :: b3 :: r).length ≤ 1099511627776) :
    Calls Tryd.prog 39 #[.pointer (some p)] w fun e w' => e = .returned (.tuple #[.int .u32 ((((b0.toNat : Int) * 256 + b1.toNat) * 256 + b2.toNat) * 256 + b3.toNat), .nilIface]) ∧ RdrG w' p g r ∧ ∃ v, w.setCell p v = w' := by
  have HT := Lib.hid (read32_at p g hpg b0 b1 b2 b3 r w h hL)
  clear h hL
  go_enter Tryd.func39, Tryd.ntmps39
  go_wp2_with fail
  refine HT.out.mono ?_
  rintro e w' ⟨rfl, hq⟩
  have HQ := Lib.hid hq
  clear hq
  go_wp2_with fail
  go_ret2
  exact ⟨rfl, HQ.out⟩
section
variable {w W W' : World} {n : Nat} {rs rs' hd hd' : List UInt8} {pk pk' : Pkt}
theorem Rg.u32 {a b c d : UInt8} {r : List UInt8} (h : Rg w n (a :: b :: c :: d :: r) hd pk W) :
    Calls Tryd.prog 39 #[.pointer (some ⟨n + 2, 0, none⟩)] W fun e w' => e = .returned (.tuple #[.int .u32 ((((a.toNat : Int) * 256 + b.toNat) * 256 + c.toNat) * 256 + d.toNat), .nilIface]) ∧ Rg w n r hd pk w' := by
  refine (U32_at ⟨n + 2, 0, none⟩ (n + 1) (by simp) a b c d r W h.rdr h.few).mono ?_
  rintro e w' ⟨rfl, hr, v, rfl⟩
  exact ⟨rfl, h.read (Fr.of_set W _ v rfl) hr (by simp only [List.length_cons]; omega)⟩
theorem Rg.u32_short (h : Rg w n rs hd pk W) (h6 : rs.length < 4) :
    Calls Tryd.prog 39 #[.pointer (some ⟨n + 2, 0, none⟩)] W fun e w' => ∃ b, e = .returned (.tuple #[.int .u32 0, .iface 76 (.pointer (some ⟨b, 0, none⟩))]) ∧ Rg w n rs hd pk w' ∧ w'.heap[b]? = some (wrongObj octetsWord 2) ∧ n + 5 ≤ b := by
  have hz := h.lt
  refine (U32_short ⟨n + 2, 0, none⟩ rs W h.rdr.rdr h6).mono ?_
  rintro e w' ⟨rfl, rfl⟩
  exact ⟨W.heap.size, rfl, h.below (below_al (Below.refl _ _) _), heap_alloc_new W _, by omega⟩
end
end Go.Proofs.YthinmonahnbkdaaDoor
