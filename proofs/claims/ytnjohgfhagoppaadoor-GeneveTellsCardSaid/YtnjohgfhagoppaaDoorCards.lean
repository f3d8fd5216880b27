/-
  DERIVED. GIVEN WITH THE SEED: THE CARDS: each row of YtnjohgfhagoppaaDoorRows.lean that lists a variable, with what it lists TIED to the program's text (the seventh form; the later family's looks); each row that meets fmt, with fmt's text TOLD by the authors' own Lean function (tested against real Go, not proved from fmt's source: count such statements apart). THE CARD IS WHAT COUNTS. Prove the row's statement (the work); the ties are given (YtnjohgfhagoppaaDoorTie.lean); close each card by the builder's one call (the guide's Derived/Test/ToyasCard.lean, 'card_holds'). Laid BY PROGRAM, IN A SANDBOX (cutbox-door.mjs). By AI agents, Wed Nov 11 2026. No macro, syntax, notation, axiom, sorry.
-/
import Derived.Test.YtnjohgfhagoppaaDoorRows
import GoSem.ClaimSeven
namespace Go.Proofs.YtnjohgfhagoppaaDoor
namespace Rows

/-- THE TIED CARD OF 'underpasslaw11.VxlanTells'. -/
def vxlanTellsCard : Claim7 := { stood := { row := vxlanTellsRow, standIns := [], harness := (true, "aefe7d7e629a6745c72281de4d21712761423c01fc192991a72ed4843cb38703"), looks := true }, kinds := [], alts := [], laidByText := true, laidKinds := [.data, .data, .data, .handle], laidTests := true, laidLooks := .later }
def VxlanTellsCardSaid : Prop := Claim7.holds Tryd.pinned (.plain (OpenSpec.ofChange vxlanTellsSpec)) vxlanTellsCard

/-- THE TIED CARD OF 'underpasslaw12.GeneveTells'. -/
def geneveTellsCard : Claim7 := { stood := { row := geneveTellsRow, standIns := [], harness := (true, "aefe7d7e629a6745c72281de4d21712761423c01fc192991a72ed4843cb38703"), looks := true }, kinds := [], alts := [], laidByText := true, laidKinds := [.data, .data, .data, .handle], laidTests := true, laidLooks := .later }
def GeneveTellsCardSaid : Prop := Claim7.holds Tryd.pinned (.plain (OpenSpec.ofChange geneveTellsSpec)) geneveTellsCard

/-- THE TIED CARD OF 'underpasslaw12.GeneveRight'. -/
def geneveRightCard : Claim7 := { stood := { row := geneveRightRow, standIns := [], harness := (true, "aefe7d7e629a6745c72281de4d21712761423c01fc192991a72ed4843cb38703"), looks := true }, kinds := [], alts := [], laidByText := true, laidKinds := [.handle], laidTests := true, laidLooks := .later }
def GeneveRightCardSaid : Prop := Claim7.holds Tryd.pinned (.plain (OpenSpec.ofChange geneveRightSpec)) geneveRightCard

/-- THE SECOND FORM's CARD OF 'underpasslaw11.VxlanTells'. -/
def vxlanTellsUptoCard : Claim7 := { stood := { row := vxlanTellsUptoRow, standIns := [], harness := (true, "aefe7d7e629a6745c72281de4d21712761423c01fc192991a72ed4843cb38703"), looks := true }, kinds := [], alts := [], laidByText := true, laidKinds := [.data, .data, .data, .handle], laidTests := true, laidLooks := .later }
def VxlanTellsUptoCardSaid : Prop := Claim7.holds Tryd.pinned (.plain (OpenSpec.upto vxlanTellsSpec)) vxlanTellsUptoCard

/-- THE SECOND FORM's CARD OF 'underpasslaw12.GeneveTells'. -/
def geneveTellsUptoCard : Claim7 := { stood := { row := geneveTellsUptoRow, standIns := [], harness := (true, "aefe7d7e629a6745c72281de4d21712761423c01fc192991a72ed4843cb38703"), looks := true }, kinds := [], alts := [], laidByText := true, laidKinds := [.data, .data, .data, .handle], laidTests := true, laidLooks := .later }
def GeneveTellsUptoCardSaid : Prop := Claim7.holds Tryd.pinned (.plain (OpenSpec.upto geneveTellsSpec)) geneveTellsUptoCard

/-- THE SECOND FORM's CARD OF 'underpasslaw12.GeneveRight'. -/
def geneveRightUptoCard : Claim7 := { stood := { row := geneveRightUptoRow, standIns := [], harness := (true, "aefe7d7e629a6745c72281de4d21712761423c01fc192991a72ed4843cb38703"), looks := true }, kinds := [], alts := [], laidByText := true, laidKinds := [.handle], laidTests := true, laidLooks := .later }
def GeneveRightUptoCardSaid : Prop := Claim7.holds Tryd.pinned (.plain (OpenSpec.upto geneveRightSpec)) geneveRightUptoCard
end Rows
end Go.Proofs.YtnjohgfhagoppaaDoor
