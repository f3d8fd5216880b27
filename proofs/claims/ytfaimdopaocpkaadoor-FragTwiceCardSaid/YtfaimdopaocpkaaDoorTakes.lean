/-
  What is proved: the reader of octets (A1) by contract: Bytes, Rest.
  Conditions: the reader holds fewer than 2^40 bytes.
-/
import Derived.Test.YtfaimdopaocpkaaDoorNums
namespace Go.Proofs.YtfaimdopaocpkaaDoor
open Go.RowKit

/-- What is left, and what was taken, behind a taking of 'n' bytes. -/
structure Took (p : Addr) (bs : List UInt8) (n : Nat) (w w' : World) : Prop where
  rdr : Rdr w' p (bs.drop n)
  part : w'.heap[w.heap.size]? = some (bytesObj (bs.take n))
  fr : Fr (· = p) w w'
  size : w'.heap.size = w.heap.size + 1
end Go.Proofs.YtfaimdopaocpkaaDoor
