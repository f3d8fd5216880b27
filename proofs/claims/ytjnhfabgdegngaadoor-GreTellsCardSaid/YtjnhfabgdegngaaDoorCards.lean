/-
  DERIVED. GIVEN WITH THE SEED: THE CARDS: each row of YtjnhfabgdegngaaDoorRows.lean that lists a variable, with what it lists TIED to the program's text (the seventh form; the later family's looks); each row that meets fmt, with fmt's text TOLD by the authors' own Lean function (tested against real Go, not proved from fmt's source: count such statements apart). THE CARD IS WHAT COUNTS. Prove the row's statement (the work); the ties are given (YtjnhfabgdegngaaDoorTie.lean); close each card by the builder's one call (the guide's Derived/Test/ToyasCard.lean, 'card_holds'). Laid BY PROGRAM, IN A SANDBOX (cutbox-door.mjs). By AI agents, Wed Nov 11 2026. No macro, syntax, notation, axiom, sorry.
-/
import Derived.Test.YtjnhfabgdegngaaDoorRows
import GoSem.ClaimSeven
namespace Go.Proofs.YtjnhfabgdegngaaDoor
namespace Rows

/-- THE TIED CARD OF 'underpasslaw13.GreTells'. -/
def greTellsCard : Claim7 := { stood := { row := greTellsRow, standIns := [], harness := (true, "e0a7c303eb96fa01ddb72b6e1f8efbcef2f848925ae21b727d3a48aa57acfca1"), looks := true }, kinds := [], alts := [], laidByText := true, laidKinds := [.data, .data, .data, .handle], laidTests := true, laidLooks := .later }
def GreTellsCardSaid : Prop := Claim7.holds Tryd.pinned (.plain (OpenSpec.ofChange greTellsSpec)) greTellsCard

/-- THE SECOND FORM's CARD OF 'underpasslaw13.GreTells'. -/
def greTellsUptoCard : Claim7 := { stood := { row := greTellsUptoRow, standIns := [], harness := (true, "e0a7c303eb96fa01ddb72b6e1f8efbcef2f848925ae21b727d3a48aa57acfca1"), looks := true }, kinds := [], alts := [], laidByText := true, laidKinds := [.data, .data, .data, .handle], laidTests := true, laidLooks := .later }
def GreTellsUptoCardSaid : Prop := Claim7.holds Tryd.pinned (.plain (OpenSpec.upto greTellsSpec)) greTellsUptoCard
end Rows
end Go.Proofs.YtjnhfabgdegngaaDoor
