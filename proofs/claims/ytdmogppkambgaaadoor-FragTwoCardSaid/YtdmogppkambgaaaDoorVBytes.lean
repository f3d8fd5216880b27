/-
  What is proved: ipv4.Packet's Bytes by contract: a right packet's bytes, another one's error.
  Conditions: the packet's numbers fit their types; fewer than 2^40 bytes.
-/
import Derived.Test.YtdmogppkambgaaaDoorVHead
namespace Go.Proofs.YtdmogppkambgaaaDoor
open Go.RowKit

def Ip.sum (p : Ip) : Nat := ck (p.hd 0).bs
def Ip.bs (p : Ip) : List UInt8 := (p.hd p.sum).bs ++ p.b
theorem Ip.bs_len (p : Ip) : p.bs.length = 20 + p.b.length := by simp [Ip.bs, Hd.bs_len]
theorem vbelow_dr {B : Nat} {w W : World} (h : Below B w W) : Below B w W.drew := ⟨h.os, h.tape, h.output, h.size, h.block⟩
theorem hd_rd {w : World} {b : Nat} {h : Hd} (hg : w.heap[b]? = some (bytesObj h.bs)) : Rd w (.slice (some ⟨b, 0, none⟩) 20 20) h.bs := Rd.of_obj (c := 20) hg (Nat.le_refl _)
theorem right_lit (p : Ip) (A : Option Addr) (c : Nat) (w : World) (hL : p.b.length ≤ 1099511627776) :
    Calls Tryd.prog 38 #[.agg #[.int .u8 p.tos, .int .u16 p.id, .bool p.df, .bool p.mf, .int .i64 p.off, .int .u8 p.ttl, .int .u8 p.proto, .int .u32 p.src, .int .u32 p.dst, .slice A p.b.length c]] w (RightTold p w) := right_any p A c w hL
theorem RightTold.good {p : Ip} {w : World} {e : Ending} {w' : World} (h : RightTold p w e w') (hb : p.bad = 0) : e = .returned .nilIface ∧ Below w.heap.size w w' := by
  obtain ⟨h1, ⟨_, h2⟩ | ⟨h2, _⟩⟩ := h
  · exact ⟨h2, h1⟩
  · exact absurd hb h2
theorem bad_zero {p : Ip} (h : p.bad = 0) : 0 ≤ p.off ∧ p.off % 8 = 0 ∧ p.off ≤ 65515 - (p.b.length : Int) ∧ (p.mf = true → 0 < p.b.length ∧ p.b.length % 8 = 0) := by
  unfold Ip.bad at h
  split at h
  · cases h
  · rename_i h1
    split at h
    · cases h
    · rename_i h2
      unfold Ip.arg at h1
      simp only [Bool.or_eq_true, Bool.and_eq_true, decide_eq_true_eq, Bool.not_eq_true', Bool.and_eq_false_iff, decide_eq_false_iff_not, not_or, not_and] at h1
      obtain ⟨⟨h3, h4⟩, h5⟩ := h1
      refine ⟨by omega, by omega, by omega, fun hm => ?_⟩
      have h6 := h5 hm
      omega
end Go.Proofs.YtdmogppkambgaaaDoor
