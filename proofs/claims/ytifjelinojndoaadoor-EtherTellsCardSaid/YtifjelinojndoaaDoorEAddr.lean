/-
  What is proved: addresses of ether as six bytes; Group; readAddress, by contract.
  Conditions: the reader holds fewer than 2^40 bytes.
-/
import Derived.Test.YtifjelinojndoaaDoorAt
namespace Go.Proofs.YtifjelinojndoaaDoor
open Go.RowKit

/-- Six bytes. -/
structure M6 where
  a : UInt8
  b : UInt8
  c : UInt8
  d : UInt8
  e : UInt8
  f : UInt8
def M6.bs (m : M6) : List UInt8 := [m.a, m.b, m.c, m.d, m.e, m.f]
/-- An address as a value. -/
def M6.val (m : M6) : Value := .agg #[.int .u8 m.a.toNat, .int .u8 m.b.toNat, .int .u8 m.c.toNat, .int .u8 m.d.toNat, .int .u8 m.e.toNat, .int .u8 m.f.toNat]

theorem and_one (n : Nat) (h : n < 256) : bits .and .u8 (n : Int) 1 = ((n % 2 : Nat) : Int) := by
  have := u8_and_nat n 1 h (by omega)
  rw [Nat.and_one_is_mod] at this
  exact this
theorem Group_any (m : M6) (w : World) :
    Calls Tryd.prog 11 #[m.val] w fun e w' => e = .returned (.bool ((m.a.toNat : Int) % 2 == 1)) ∧ Below w.heap.size w w' := by
  unfold M6.val
  have h1 := and_one m.a.toNat m.a.toNat_lt
  go_enter Tryd.func11, Tryd.ntmps11
  go_wp2_with fail
  go_ret
  exact ⟨rfl, (Below.refl _ _).alloc (Nat.le_refl _) _⟩

theorem readAddress_short (p : Addr) (bs : List UInt8) (w : World) (h : Rdr w p bs) (hn : bs.length < 6) :
    Calls Tryd.prog 24 #[.pointer (some p)] w fun e w' => ∃ b, e = .returned (.tuple #[M6.val ⟨0, 0, 0, 0, 0, 0⟩, .iface 64 (.pointer (some ⟨b, 0, none⟩))]) ∧ Chain w' 2 [octetsWord] (.iface 64 (.pointer (some ⟨b, 0, none⟩))) ∧ Below w.heap.size w w' := by
  have H := Lib.hid h
  clear h
  go_enter Tryd.func24, Tryd.ntmps24
  go_wp2_with fail
  refine (Bytes_short p bs 6 _ (H.out.below (below_al (below_al (Below.refl _ _) _) _)) (by omega)).mono ?_
  rintro e w' ⟨rfl, rfl⟩
  go_wp2_with fail
  (try simp only [Exit.inBlock, Exit.then])
  refine bodyPost_ret (v := .tuple #[M6.val ⟨0, 0, 0, 0, 0, 0⟩, .iface 64 (.pointer (some ⟨w.heap.size + 1 + 1, 0, none⟩))]) ?_ rfl ⟨_, rfl, ?_, below_al (below_al (below_al (Below.refl _ _) _) _) _⟩
  · rw [results_cell_tmp rfl]
    go_simp
    rfl
  · have := chain_one ((w.alloc (.cells #[.int .u8 0, .int .u8 0, .int .u8 0, .int .u8 0, .int .u8 0, .int .u8 0] 24)).alloc (.cells #[.int .u8 0, .int .u8 0, .int .u8 0, .int .u8 0, .int .u8 0, .int .u8 0] 24)) octetsWord 2
    simpa using this

theorem setRow_alloc2 (w : World) (c cs : Array Value) (t : TypeId) (o : Obj) : ((w.alloc (.cells c t)).alloc o).setRow w.heap.size cs = (w.alloc (.cells cs t)).alloc o := by
  unfold World.setRow World.alloc
  congr 1
  apply Array.ext_getElem?
  intro i
  simp only [Array.getElem?_modify, Array.getElem?_push, Array.size_push]
  by_cases h1 : i = w.heap.size
  · subst h1
    simp
  · simp [h1, Ne.symm h1]
theorem copy_mac (m : M6) (w : World) (Z : Obj) (t : TypeId) (ty : TypeId) :
    (Builtin.copy_ #[22, 22] ty #[.slice (some ⟨w.heap.size + 1, 0, none⟩) 6 6, .slice (some ⟨w.heap.size + 1 + 1, 0, none⟩) 6 6]).run Tryd.prog (((w.alloc Z).alloc (.cells #[.int .u8 0, .int .u8 0, .int .u8 0, .int .u8 0, .int .u8 0, .int .u8 0] t)).alloc (bytesObj m.bs)) =
      .ok (.int .i64 6) (((w.alloc Z).alloc (.cells #[.int .u8 m.a.toNat, .int .u8 m.b.toNat, .int .u8 m.c.toNat, .int .u8 m.d.toNat, .int .u8 m.e.toNat, .int .u8 m.f.toNat] t)).alloc (bytesObj m.bs)) := by
  have hs : (Tryd.prog.info? 5).map (·.size) = some 1 := by
    obtain ⟨i0, hi, hz0, hz1, hz2⟩ := info_parts u8info
    simp [hi, hz1]
  have hg : (((w.alloc Z).alloc (.cells #[.int .u8 0, .int .u8 0, .int .u8 0, .int .u8 0, .int .u8 0, .int .u8 0] t)).alloc (bytesObj m.bs)).heap[w.heap.size + 1]? = some (.cells #[.int .u8 0, .int .u8 0, .int .u8 0, .int .u8 0, .int .u8 0, .int .u8 0] t) := by
    have := heap_alloc2_old (w.alloc Z) (.cells #[.int .u8 0, .int .u8 0, .int .u8 0, .int .u8 0, .int .u8 0, .int .u8 0] t) (bytesObj m.bs)
    simpa using this
  have hb : (((w.alloc Z).alloc (.cells #[.int .u8 0, .int .u8 0, .int .u8 0, .int .u8 0, .int .u8 0, .int .u8 0] t)).alloc (bytesObj m.bs)).heap[w.heap.size + 1 + 1]? = some (bytesObj m.bs) := by
    have := bytesObj_new ((w.alloc Z).alloc (.cells #[.int .u8 0, .int .u8 0, .int .u8 0, .int .u8 0, .int .u8 0, .int .u8 0] t)) m.bs
    simpa using this
  have h := run_copy_row (P := Tryd.prog) (((w.alloc Z).alloc (.cells #[.int .u8 0, .int .u8 0, .int .u8 0, .int .u8 0, .int .u8 0, .int .u8 0] t)).alloc (bytesObj m.bs)) 22 22 ty 5 (w.heap.size + 1) 0 6 6 ⟨w.heap.size + 1 + 1, 0, none⟩ 6 6 _ t (m.bs.map B8) Tryd.underlying22 hs hg rfl
    (fun j v hv => by
      obtain ⟨u, hu, rfl⟩ := getElem_B8 hv
      rw [Addr.add_lit, Nat.zero_add]
      exact bytesCell hb j u hu) (by simp [M6.bs]) (oneCell_B8 _)
  rw [h]
  have e2 := setRow_alloc2 (w.alloc Z) #[.int .u8 0, .int .u8 0, .int .u8 0, .int .u8 0, .int .u8 0, .int .u8 0] #[.int .u8 m.a.toNat, .int .u8 m.b.toNat, .int .u8 m.c.toNat, .int .u8 m.d.toNat, .int .u8 m.e.toNat, .int .u8 m.f.toNat] t (bytesObj m.bs)
  rw [World.size_alloc] at e2
  rw [← e2]
  simp [M6.bs, B8, goInt]

theorem readAddress_ok (p : Addr) (g : Nat) (hpg : p.block ≠ g) (m : M6) (r : List UInt8) (w : World) (h : RdrG w p g (m.bs ++ r)) (hL : (m.bs ++ r).length ≤ 1099511627776) :
    Calls Tryd.prog 24 #[.pointer (some p)] w fun e w' => e = .returned (.tuple #[m.val, .nilIface]) ∧ RdrG w' p g r ∧ Fr (· = p) w w' := by
  have hl := h.at_
  have hb : Below w.heap.size w ((w.alloc (.cells #[.int .u8 0, .int .u8 0, .int .u8 0, .int .u8 0, .int .u8 0, .int .u8 0] 24)).alloc (.cells #[.int .u8 0, .int .u8 0, .int .u8 0, .int .u8 0, .int .u8 0, .int .u8 0] 24)) := below_al (below_al (Below.refl _ _) _) _
  have HT := Lib.hid (Bytes_at p g hpg (m.bs ++ r) 6 _ (h.below hb) (by simp [M6.bs]) hL)
  have H := Lib.hid h
  clear h hb hL
  go_enter Tryd.func24, Tryd.ntmps24
  go_wp2_with fail
  refine HT.out.mono ?_
  rintro e w' ⟨rfl, v, hg, rfl⟩
  rw [setCell_alloc_old _ _ _ _ (by simp; omega), setCell_alloc_old _ _ _ _ hl] at hg ⊢
  have et : (m.bs ++ r).take 6 = m.bs := by simp [M6.bs]
  have ed : (m.bs ++ r).drop 6 = r := by simp [M6.bs]
  rw [et]
  rw [ed] at hg
  have HF := Lib.hid (Fr.of_set (p := (· = p)) w p v rfl)
  have hsz : w.heap.size = (w.setCell p v).heap.size := by simp
  have HZ := Lib.hid hsz
  simp only [World.size_alloc]
  rw [hsz]
  have hr := H.out.row_lt (by simp [M6.bs])
  have hg := (hg.unalloc (by simp; omega) (by simp; omega)).unalloc (by simpa using hl) (by simpa using hr)
  have HG := Lib.hid hg
  clear hg et ed hsz H HT hl hr
  generalize w.setCell p v = w0 at *
  have hcp := copy_mac m w0 (.cells #[.int .u8 0, .int .u8 0, .int .u8 0, .int .u8 0, .int .u8 0, .int .u8 0] 24) 24
  go_wp2_with fail
  (try simp only [Exit.inBlock, Exit.then])
  have hb := Lib.hid (below_al (below_al (below_al (Below.refl w0.heap.size w0) (.cells #[.int .u8 m.a.toNat, .int .u8 m.b.toNat, .int .u8 m.c.toNat, .int .u8 m.d.toNat, .int .u8 m.e.toNat, .int .u8 m.f.toNat] 24)) (.cells #[.int .u8 m.a.toNat, .int .u8 m.b.toNat, .int .u8 m.c.toNat, .int .u8 m.d.toNat, .int .u8 m.e.toNat, .int .u8 m.f.toNat] 24)) (bytesObj m.bs))
  refine bodyPost_ret (v := .tuple #[m.val, .nilIface]) ?_ rfl ⟨rfl, HG.out.below hb.out, HF.out.trans (Fr.of_below hb.out)⟩
  rw [results_cell_tmp rfl]
  go_simp
  rfl
end Go.Proofs.YtifjelinojndoaaDoor
