/-
  What is proved: ether's readFrame, of bytes that are a frame, by contract.
  Conditions: the reader holds fewer than 2^40 bytes.
-/
import Derived.Test.YtdmogppkambgaaaDoorEFrame
import Derived.Deep.RegionLaw
namespace Go.Proofs.YtdmogppkambgaaaDoor
open Go.RowKit

/-- What Rest leaves, beside blocks that were there. -/
theorem rest_facts (p : Addr) (bs : List UInt8) (w : World) (h : Rdr w p bs) (hL : bs.length ≤ 1099511627776) (n R D S : Nat) (oR oD oS : Obj) (hp : p.block < n) (hn : n ≤ R) (hn1 : n ≤ D) (hn2 : n ≤ S)
    (hR : w.heap[R]? = some oR) (hD : w.heap[D]? = some oD) (hS : w.heap[S]? = some oS) :
    Calls Tryd.prog 33 #[.pointer (some p)] w fun e w' => e = .returned (.slice (some ⟨w.heap.size, 0, none⟩) bs.length bs.length) ∧
      w'.heap[R]? = some oR ∧ w'.heap[D]? = some oD ∧ w'.heap[S]? = some oS ∧ w'.heap[w.heap.size]? = some (bytesObj bs) ∧ Fr (· = p) w w' := by
  refine (Rest_any p bs w h hL).mono ?_
  rintro e w' ⟨rfl, ht⟩
  have key : ∀ k o, n ≤ k → w.heap[k]? = some o → w'.heap[k]? = some o := fun k o hk ho => (ht.fr.block k (Array.getElem?_eq_some_iff.1 ho).1 (fun a ha => by subst ha; omega)).trans ho
  refine ⟨rfl, key R _ hn hR, key D _ hn1 hD, key S _ hn2 hS, ?_, ht.fr⟩
  have := ht.part
  rwa [List.take_length] at this

end Go.Proofs.YtdmogppkambgaaaDoor
