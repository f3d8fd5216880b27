/-
  DERIVED. GIVEN WITH THE SEED: THE CARDS: each row of YtmkfinpkidfohaaDoorRows.lean that lists a variable, with what it lists TIED to the program's text (the seventh form; the later family's looks); each row that meets fmt, with fmt's text TOLD by the authors' own Lean function (tested against real Go, not proved from fmt's source: count such statements apart). THE CARD IS WHAT COUNTS. Prove the row's statement (the work); the ties are given (YtmkfinpkidfohaaDoorTie.lean); close each card by the builder's one call (the guide's Derived/Test/ToyasCard.lean, 'card_holds'). Laid BY PROGRAM, IN A SANDBOX (cutbox-door.mjs). By AI agents, Wed Nov 11 2026. No macro, syntax, notation, axiom, sorry.
-/
import Derived.Test.YtmkfinpkidfohaaDoorRows
import GoSem.ClaimSeven
namespace Go.Proofs.YtmkfinpkidfohaaDoor
namespace Rows

/-- THE TIED CARD OF 'underpasslaw01.OctetsWrites'. -/
def octetsWritesCard : Claim7 := { stood := { row := octetsWritesRow, standIns := [], harness := (true, "b9d89cb4eede829c6c1c4cb093e9c37829a414b41556012f778bd438865fb9d3"), looks := true }, kinds := [], alts := [], laidByText := true, laidKinds := [.handle], laidTests := true, laidLooks := .later }
def OctetsWritesCardSaid : Prop := Claim7.holds Tryd.pinned (.plain (OpenSpec.ofChange octetsWritesSpec)) octetsWritesCard

/-- THE TIED CARD OF 'underpasslaw01.OctetsBack'. -/
def octetsBackCard : Claim7 := { stood := { row := octetsBackRow, standIns := [], harness := (true, "b9d89cb4eede829c6c1c4cb093e9c37829a414b41556012f778bd438865fb9d3"), looks := true }, kinds := [], alts := [], laidByText := true, laidKinds := [.handle], laidTests := true, laidLooks := .later }
def OctetsBackCardSaid : Prop := Claim7.holds Tryd.pinned (.plain (OpenSpec.ofChange octetsBackSpec)) octetsBackCard

/-- THE SECOND FORM's CARD OF 'underpasslaw01.OctetsWrites'. -/
def octetsWritesUptoCard : Claim7 := { stood := { row := octetsWritesUptoRow, standIns := [], harness := (true, "b9d89cb4eede829c6c1c4cb093e9c37829a414b41556012f778bd438865fb9d3"), looks := true }, kinds := [], alts := [], laidByText := true, laidKinds := [.handle], laidTests := true, laidLooks := .later }
def OctetsWritesUptoCardSaid : Prop := Claim7.holds Tryd.pinned (.plain (OpenSpec.upto octetsWritesSpec)) octetsWritesUptoCard

/-- THE SECOND FORM's CARD OF 'underpasslaw01.OctetsBack'. -/
def octetsBackUptoCard : Claim7 := { stood := { row := octetsBackUptoRow, standIns := [], harness := (true, "b9d89cb4eede829c6c1c4cb093e9c37829a414b41556012f778bd438865fb9d3"), looks := true }, kinds := [], alts := [], laidByText := true, laidKinds := [.handle], laidTests := true, laidLooks := .later }
def OctetsBackUptoCardSaid : Prop := Claim7.holds Tryd.pinned (.plain (OpenSpec.upto octetsBackSpec)) octetsBackUptoCard
end Rows
end Go.Proofs.YtmkfinpkidfohaaDoor
