/-
  What is proved: 'few' of the laws of layer 5 by contract: the packet with at most its first three thousand bytes, in a row of its own.
  Conditions: the bytes' capacity is an int.
-/
import Derived.Test.YtdhndahoaobhpaaDoorVShown
import Derived.Test.YtdhndahoaobhpaaDoorVLift
namespace Go.Proofs.YtdhndahoaobhpaaDoor
open Go.RowKit

def Ip.few (p : Ip) : Ip := { p with b := p.b.take 3000 }
theorem Ip.few_in {p : Ip} (h : p.Fit) : p.few.In := h.inn _ (by rw [List.length_take]; omega)
/-- What few tells. -/
def FewTold (p : Ip) (w : World) (e : Ending) (w' : World) : Prop :=
  ∃ g c, e = .returned (.agg #[.int .u8 p.tos, .int .u16 p.id, .bool p.df, .bool p.mf, .int .i64 p.off, .int .u8 p.ttl, .int .u8 p.proto, .int .u32 p.src, .int .u32 p.dst, .slice (some ⟨g, 0, none⟩) p.few.b.length c]) ∧ Rd w' (.slice (some ⟨g, 0, none⟩) p.few.b.length c) p.few.b ∧ w.heap.size ≤ g ∧ Below w.heap.size w w'
theorem front_any {w : World} {A : Option Addr} {c : Nat} {bs : List UInt8} (h : Rd w (.slice A bs.length c) bs) (k : Nat) : Rd w (.slice A (bs.take k).length c) (bs.take k) := by
  by_cases hk : k ≤ bs.length
  · have e : (bs.take k).length = k := by rw [List.length_take]; omega
    rw [e]
    exact h.front hk
  · rw [List.take_of_length_le (by omega)]
    exact h
theorem rd_row {W : World} {G n c : Nat} {bs : List UInt8} (h : Rd W (.slice (some ⟨G, 0, none⟩) n c) bs) {g : Nat} (hne : G ≠ g) (cs : Array Value) : Rd (W.setRow g cs) (.slice (some ⟨G, 0, none⟩) n c) bs := by
  obtain ⟨A, c', e, hc, hi⟩ := h
  refine ⟨A, c', e, hc, fun h0 => ?_⟩
  obtain ⟨g', o, e1, hi⟩ := hi h0
  refine ⟨g', o, e1, fun j u hu => ?_⟩
  cases e
  cases e1
  rw [World.cell?_of_block (setRow_other W g cs hne)]
  exact hi j u hu
end Go.Proofs.YtdhndahoaobhpaaDoor
