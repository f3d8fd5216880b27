/-
  What is proved: 'shown' of the laws of layer 3 answers true, and leaves all older memory as it was.
  Conditions: errors.errorType holds the handle of the type error; api.All holds six times 255.
-/
import Derived.Test.YtdmogppkambgaaaDoorEBytesDo
import Derived.Test.YtdmogppkambgaaaDoorSRow
namespace Go.Proofs.YtdmogppkambgaaaDoor
open Go.RowKit

def shBs : List UInt8 := [255, 255, 255, 255, 255, 255, 2, 2, 2, 2, 2, 2, 129, 0, 0, 5, 8, 6, 9]
def shFrm : Frm := ⟨⟨255, 255, 255, 255, 255, 255⟩, ⟨2, 2, 2, 2, 2, 2⟩, 5, 2054, [9]⟩
theorem shFrm_ok : shFrm.Ok := ⟨by decide, .inr ⟨by decide, by decide⟩⟩
theorem shFrm_bs : shFrm.bs = shBs := by decide
end Go.Proofs.YtdmogppkambgaaaDoor
