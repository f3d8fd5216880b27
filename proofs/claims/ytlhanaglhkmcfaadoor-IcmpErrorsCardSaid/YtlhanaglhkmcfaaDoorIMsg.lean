/-
  What is proved: an ICMP message as data: its bytes, its cells, the block that it lies in.
  Conditions: the message's numbers fit their types.
-/
import Derived.Test.YtlhanaglhkmcfaaDoorVTop
namespace Go.Proofs.YtlhanaglhkmcfaaDoor
open Go.RowKit

def icmpWord : ByteArray := ⟨#[105, 99, 109, 112]⟩
/-- An ICMP message. -/
structure Ms where
  typ : Nat
  code : Nat
  rest : Nat
  b : List UInt8
structure Ms.In (m : Ms) : Prop where
  typ : m.typ < 256
  code : m.code < 256
  rest : m.rest < 4294967296
  b : m.b.length ≤ 1099511000000
def Ms.row (m : Ms) (bv : Value) : Array Value := #[.int .u8 m.typ, .int .u8 m.code, .int .u32 m.rest, bv]
def Ms.val (m : Ms) (bv : Value) : Value := .agg (m.row bv)
def Ms.obj (m : Ms) (bv : Value) : Obj := .cells #[.int .u8 m.typ, .int .u8 m.code, .int .u32 m.rest, bv] 25
theorem Ms.val_lit (m : Ms) (bv : Value) : m.val bv = .agg #[.int .u8 m.typ, .int .u8 m.code, .int .u32 m.rest, bv] := rfl
theorem msSize : (Tryd.prog.info? 25).map (·.size) = some 4 := by kernel_rfl
theorem msRow_one (m : Ms) (A : Option Addr) (n c : Nat) : (m.row (.slice A n c)).all (·.oneCell') = true := by simp [Ms.row, Value.oneCell']
theorem msRow_plain (m : Ms) (A : Option Addr) (n c : Nat) : Plain (m.row (.slice A n c)) := by
  intro v hv
  simp only [Ms.row, List.mem_cons, List.not_mem_nil, or_false] at hv
  constructor <;> intros <;> rintro rfl <;> simp at hv

/-- The block of a message. -/
def MsAt (W : World) (G : Nat) (m : Ms) (bv : Value) : Prop := W.heap[G]? = some (m.obj bv)
section
variable {W W' : World} {G : Nat} {m : Ms} {bv : Value}
theorem MsAt.lt (h : MsAt W G m bv) : G < W.heap.size := (Array.getElem?_eq_some_iff.1 h).1
theorem MsAt.below (h : MsAt W G m bv) (hb : Below W.heap.size W W') : MsAt W' G m bv := (hb.block _ h.lt).trans h
theorem MsAt.new (w : World) (m : Ms) (bv : Value) : MsAt (w.alloc (m.obj bv)) w.heap.size m bv := heap_alloc_new w _
theorem MsAt.cells (h : MsAt W G m bv) :
    W.cell? ⟨G, 0, none⟩ = some (.int .u8 m.typ) ∧ W.cell? ⟨G, 1, none⟩ = some (.int .u8 m.code) ∧ W.cell? ⟨G, 2, none⟩ = some (.int .u32 m.rest) ∧ W.cell? ⟨G, 3, none⟩ = some bv := by
  unfold MsAt Ms.obj at h
  refine ⟨?_, ?_, ?_, ?_⟩ <;> (rw [cell_of_row W G _ _ _ _ h]; rfl)
theorem MsAt.free (h : MsAt W G m bv) (i : Nat) : W.frozen? ⟨G, i, none⟩ = false := by
  have h' : W.heap[G]? = some (m.obj bv) := h
  unfold Ms.obj at h'
  simp [World.frozen?, h']
end

/-- A message's bytes. -/
def hi8 (t c s r : Nat) : List UInt8 := [UInt8.ofNat t] ++ [UInt8.ofNat c] ++ be2 s ++ be4 r
theorem hi8_len (t c s r : Nat) : (hi8 t c s r).length = 8 := rfl
def Ms.ck (m : Ms) : Nat := Proofs.YtlhanaglhkmcfaaDoor.ck (hi8 m.typ m.code 0 m.rest ++ m.b)
def Ms.bs (m : Ms) : List UInt8 := hi8 m.typ m.code m.ck m.rest ++ m.b
theorem Ms.bs_len (m : Ms) : m.bs.length = 8 + m.b.length := by simp [Ms.bs, hi8_len]
theorem Ms.ck_lt (m : Ms) : m.ck < 65536 := by
  have h := ck_le (hi8 m.typ m.code 0 m.rest ++ m.b)
  unfold Ms.ck
  omega
theorem hi8_rd {w : World} {b : Nat} {t c s r : Nat} (hg : w.heap[b]? = some (bytesObj (hi8 t c s r))) : Rd w (.slice (some ⟨b, 0, none⟩) 8 8) (hi8 t c s r) := Rd.of_obj (c := 8) hg (Nat.le_refl _)
/-- Eight bytes are a head's. -/
theorem hi8_split (l : List UInt8) (h : 8 ≤ l.length) : ∃ t c s r x, t < 256 ∧ c < 256 ∧ s < 65536 ∧ r < 4294967296 ∧ l = hi8 t c s r ++ x := by
  match l, h with
  | a0 :: a1 :: a2 :: a3 :: a4 :: a5 :: a6 :: a7 :: x, _ =>
    have lt : ∀ u : UInt8, u.toNat < 256 := fun u => u.toNat_lt
    have ofe : ∀ (u : UInt8) (n : Nat), n % 256 = u.toNat → UInt8.ofNat n = u := fun u n h => by apply UInt8.toNat_inj.1; rw [ofNat_lt, h]
    have l0 := lt a0
    have l1 := lt a1
    have l2 := lt a2
    have l3 := lt a3
    have l4 := lt a4
    have l5 := lt a5
    have l6 := lt a6
    have l7 := lt a7
    refine ⟨a0.toNat, a1.toNat, a2.toNat * 256 + a3.toNat, ((a4.toNat * 256 + a5.toNat) * 256 + a6.toNat) * 256 + a7.toNat, x, l0, l1, by omega, by omega, ?_⟩
    unfold hi8 be2 be4
    rw [ofe a0 _ (by omega), ofe a1 _ (by omega), ofe a2 _ (by omega), ofe a3 _ (by omega), ofe a4 _ (by omega), ofe a5 _ (by omega), ofe a6 _ (by omega), ofe a7 _ (by omega)]
    rfl
/-- The sum of a head and what is behind it. -/
def hi8rest (t c r : Nat) (b : List UInt8) : Nat := wsum true (hi8 t c 0 r ++ b)
theorem hi8_sum (t c s r : Nat) (b : List UInt8) (hs : s < 65536) : wsum true (hi8 t c s r ++ b) = hi8rest t c r b + s := by
  have e := be2_sum s hs
  have e0 : (UInt8.ofNat (0 / 256)).toNat * 256 + (UInt8.ofNat 0).toNat = 0 := rfl
  have k1 : wsum true (hi8 t c s r ++ b) = (UInt8.ofNat t).toNat * 256 + ((UInt8.ofNat c).toNat + ((UInt8.ofNat (s / 256)).toNat * 256 + ((UInt8.ofNat s).toNat + wsum true (be4 r ++ b)))) := rfl
  have k2 : hi8rest t c r b = (UInt8.ofNat t).toNat * 256 + ((UInt8.ofNat c).toNat + ((UInt8.ofNat (0 / 256)).toNat * 256 + ((UInt8.ofNat 0).toNat + wsum true (be4 r ++ b)))) := rfl
  omega
theorem Ms.bs_ck (m : Ms) : Proofs.YtlhanaglhkmcfaaDoor.ck m.bs = 0 := by
  have h1 := m.ck_lt
  have h2 : m.ck = 65535 - fold (hi8rest m.typ m.code m.rest m.b) := rfl
  unfold Ms.bs
  rw [ck_zero, hi8_sum _ _ _ _ _ h1, h2]
  unfold fold
  split <;> omega
end Go.Proofs.YtlhanaglhkmcfaaDoor
