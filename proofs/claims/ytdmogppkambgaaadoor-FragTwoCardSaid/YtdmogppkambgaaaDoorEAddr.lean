/-
  What is proved: addresses of ether as six bytes; Group; readAddress, by contract.
  Conditions: the reader holds fewer than 2^40 bytes.
-/
import Derived.Test.YtdmogppkambgaaaDoorAt
namespace Go.Proofs.YtdmogppkambgaaaDoor
open Go.RowKit

/-- Six bytes. -/
structure M6 where
  a : UInt8
  b : UInt8
  c : UInt8
  d : UInt8
  e : UInt8
  f : UInt8
def M6.bs (m : M6) : List UInt8 := [m.a, m.b, m.c, m.d, m.e, m.f]
/-- An address as a value. -/
def M6.val (m : M6) : Value := .agg #[.int .u8 m.a.toNat, .int .u8 m.b.toNat, .int .u8 m.c.toNat, .int .u8 m.d.toNat, .int .u8 m.e.toNat, .int .u8 m.f.toNat]

theorem and_one (n : Nat) (h : n < 256) : bits .and .u8 (n : Int) 1 = ((n % 2 : Nat) : Int) := by
  have := u8_and_nat n 1 h (by omega)
  rw [Nat.and_one_is_mod] at this
  exact this
theorem setRow_alloc2 (w : World) (c cs : Array Value) (t : TypeId) (o : Obj) : ((w.alloc (.cells c t)).alloc o).setRow w.heap.size cs = (w.alloc (.cells cs t)).alloc o := by
  unfold World.setRow World.alloc
  congr 1
  apply Array.ext_getElem?
  intro i
  simp only [Array.getElem?_modify, Array.getElem?_push, Array.size_push]
  by_cases h1 : i = w.heap.size
  · subst h1
    simp
  · simp [h1, Ne.symm h1]
theorem copy_mac (m : M6) (w : World) (Z : Obj) (t : TypeId) (ty : TypeId) :
    (Builtin.copy_ #[23, 23] ty #[.slice (some ⟨w.heap.size + 1, 0, none⟩) 6 6, .slice (some ⟨w.heap.size + 1 + 1, 0, none⟩) 6 6]).run Tryd.prog (((w.alloc Z).alloc (.cells #[.int .u8 0, .int .u8 0, .int .u8 0, .int .u8 0, .int .u8 0, .int .u8 0] t)).alloc (bytesObj m.bs)) =
      .ok (.int .i64 6) (((w.alloc Z).alloc (.cells #[.int .u8 m.a.toNat, .int .u8 m.b.toNat, .int .u8 m.c.toNat, .int .u8 m.d.toNat, .int .u8 m.e.toNat, .int .u8 m.f.toNat] t)).alloc (bytesObj m.bs)) := by
  have hs : (Tryd.prog.info? 5).map (·.size) = some 1 := by
    obtain ⟨i0, hi, hz0, hz1, hz2⟩ := info_parts u8info
    simp [hi, hz1]
  have hg : (((w.alloc Z).alloc (.cells #[.int .u8 0, .int .u8 0, .int .u8 0, .int .u8 0, .int .u8 0, .int .u8 0] t)).alloc (bytesObj m.bs)).heap[w.heap.size + 1]? = some (.cells #[.int .u8 0, .int .u8 0, .int .u8 0, .int .u8 0, .int .u8 0, .int .u8 0] t) := by
    have := heap_alloc2_old (w.alloc Z) (.cells #[.int .u8 0, .int .u8 0, .int .u8 0, .int .u8 0, .int .u8 0, .int .u8 0] t) (bytesObj m.bs)
    simpa using this
  have hb : (((w.alloc Z).alloc (.cells #[.int .u8 0, .int .u8 0, .int .u8 0, .int .u8 0, .int .u8 0, .int .u8 0] t)).alloc (bytesObj m.bs)).heap[w.heap.size + 1 + 1]? = some (bytesObj m.bs) := by
    have := bytesObj_new ((w.alloc Z).alloc (.cells #[.int .u8 0, .int .u8 0, .int .u8 0, .int .u8 0, .int .u8 0, .int .u8 0] t)) m.bs
    simpa using this
  have h := run_copy_row (P := Tryd.prog) (((w.alloc Z).alloc (.cells #[.int .u8 0, .int .u8 0, .int .u8 0, .int .u8 0, .int .u8 0, .int .u8 0] t)).alloc (bytesObj m.bs)) 23 23 ty 5 (w.heap.size + 1) 0 6 6 ⟨w.heap.size + 1 + 1, 0, none⟩ 6 6 _ t (m.bs.map B8) Tryd.underlying23 hs hg rfl
    (fun j v hv => by
      obtain ⟨u, hu, rfl⟩ := getElem_B8 hv
      rw [Addr.add_lit, Nat.zero_add]
      exact bytesCell hb j u hu) (by simp [M6.bs]) (oneCell_B8 _)
  rw [h]
  have e2 := setRow_alloc2 (w.alloc Z) #[.int .u8 0, .int .u8 0, .int .u8 0, .int .u8 0, .int .u8 0, .int .u8 0] #[.int .u8 m.a.toNat, .int .u8 m.b.toNat, .int .u8 m.c.toNat, .int .u8 m.d.toNat, .int .u8 m.e.toNat, .int .u8 m.f.toNat] t (bytesObj m.bs)
  rw [World.size_alloc] at e2
  rw [← e2]
  simp [M6.bs, B8, goInt]

end Go.Proofs.YtdmogppkambgaaaDoor
