/-
  DERIVED. GIVEN WITH THE SEED: THE CARDS: each row of YtpmdnpgeohigoaaDoorRows.lean that lists a variable, with what it lists TIED to the program's text (the seventh form; the later family's looks); each row that meets fmt, with fmt's text TOLD by the authors' own Lean function (tested against real Go, not proved from fmt's source: count such statements apart). THE CARD IS WHAT COUNTS. Prove the row's statement (the work); the ties are given (YtpmdnpgeohigoaaDoorTie.lean); close each card by the builder's one call (the guide's Derived/Test/ToyasCard.lean, 'card_holds'). Laid BY PROGRAM, IN A SANDBOX (cutbox-door.mjs). By AI agents, Wed Nov 11 2026. No macro, syntax, notation, axiom, sorry.
-/
import Derived.Test.YtpmdnpgeohigoaaDoorRows
import GoSem.ClaimSeven
namespace Go.Proofs.YtpmdnpgeohigoaaDoor
namespace Rows

/-- THE TIED CARD OF 'underpasslaw04.ArpTells'. -/
def arpTellsCard : Claim7 := { stood := { row := arpTellsRow, standIns := [], harness := (true, "237f7fa34c8976267ccc2027977a120136ee752037dda713f8b897c4149a1e48"), looks := true }, kinds := [], alts := [], laidByText := true, laidKinds := [.handle], laidTests := true, laidLooks := .later }
def ArpTellsCardSaid : Prop := Claim7.holds Tryd.pinned (.plain (OpenSpec.ofChange arpTellsSpec)) arpTellsCard

/-- THE TIED CARD OF 'underpasslaw04.ArpBack'. -/
def arpBackCard : Claim7 := { stood := { row := arpBackRow, standIns := [], harness := (true, "237f7fa34c8976267ccc2027977a120136ee752037dda713f8b897c4149a1e48"), looks := true }, kinds := [], alts := [], laidByText := true, laidKinds := [.handle], laidTests := true, laidLooks := .later }
def ArpBackCardSaid : Prop := Claim7.holds Tryd.pinned (.plain (OpenSpec.ofChange arpBackSpec)) arpBackCard

/-- THE TIED CARD OF 'underpasslaw04.ArpCuts'. -/
def arpCutsCard : Claim7 := { stood := { row := arpCutsRow, standIns := [], harness := (true, "237f7fa34c8976267ccc2027977a120136ee752037dda713f8b897c4149a1e48"), looks := true }, kinds := [], alts := [], laidByText := true, laidKinds := [.handle], laidTests := true, laidLooks := .later }
def ArpCutsCardSaid : Prop := Claim7.holds Tryd.pinned (.plain (OpenSpec.ofChange arpCutsSpec)) arpCutsCard

/-- THE TIED CARD OF 'underpasslaw04.ArpUnlike'. -/
def arpUnlikeCard : Claim7 := { stood := { row := arpUnlikeRow, standIns := [], harness := (true, "237f7fa34c8976267ccc2027977a120136ee752037dda713f8b897c4149a1e48"), looks := true }, kinds := [], alts := [], laidByText := true, laidKinds := [.handle], laidTests := true, laidLooks := .later }
def ArpUnlikeCardSaid : Prop := Claim7.holds Tryd.pinned (.plain (OpenSpec.ofChange arpUnlikeSpec)) arpUnlikeCard

/-- THE TIED CARD OF 'underpasslaw04.ArpTurned'. -/
def arpTurnedCard : Claim7 := { stood := { row := arpTurnedRow, standIns := [], harness := (true, "237f7fa34c8976267ccc2027977a120136ee752037dda713f8b897c4149a1e48"), looks := true }, kinds := [], alts := [], laidByText := true, laidKinds := [.handle], laidTests := true, laidLooks := .later }
def ArpTurnedCardSaid : Prop := Claim7.holds Tryd.pinned (.plain (OpenSpec.ofChange arpTurnedSpec)) arpTurnedCard

/-- THE SECOND FORM's CARD OF 'underpasslaw04.ArpTells'. -/
def arpTellsUptoCard : Claim7 := { stood := { row := arpTellsUptoRow, standIns := [], harness := (true, "237f7fa34c8976267ccc2027977a120136ee752037dda713f8b897c4149a1e48"), looks := true }, kinds := [], alts := [], laidByText := true, laidKinds := [.handle], laidTests := true, laidLooks := .later }
def ArpTellsUptoCardSaid : Prop := Claim7.holds Tryd.pinned (.plain (OpenSpec.upto arpTellsSpec)) arpTellsUptoCard

/-- THE SECOND FORM's CARD OF 'underpasslaw04.ArpBack'. -/
def arpBackUptoCard : Claim7 := { stood := { row := arpBackUptoRow, standIns := [], harness := (true, "237f7fa34c8976267ccc2027977a120136ee752037dda713f8b897c4149a1e48"), looks := true }, kinds := [], alts := [], laidByText := true, laidKinds := [.handle], laidTests := true, laidLooks := .later }
def ArpBackUptoCardSaid : Prop := Claim7.holds Tryd.pinned (.plain (OpenSpec.upto arpBackSpec)) arpBackUptoCard

/-- THE SECOND FORM's CARD OF 'underpasslaw04.ArpCuts'. -/
def arpCutsUptoCard : Claim7 := { stood := { row := arpCutsUptoRow, standIns := [], harness := (true, "237f7fa34c8976267ccc2027977a120136ee752037dda713f8b897c4149a1e48"), looks := true }, kinds := [], alts := [], laidByText := true, laidKinds := [.handle], laidTests := true, laidLooks := .later }
def ArpCutsUptoCardSaid : Prop := Claim7.holds Tryd.pinned (.plain (OpenSpec.upto arpCutsSpec)) arpCutsUptoCard

/-- THE SECOND FORM's CARD OF 'underpasslaw04.ArpUnlike'. -/
def arpUnlikeUptoCard : Claim7 := { stood := { row := arpUnlikeUptoRow, standIns := [], harness := (true, "237f7fa34c8976267ccc2027977a120136ee752037dda713f8b897c4149a1e48"), looks := true }, kinds := [], alts := [], laidByText := true, laidKinds := [.handle], laidTests := true, laidLooks := .later }
def ArpUnlikeUptoCardSaid : Prop := Claim7.holds Tryd.pinned (.plain (OpenSpec.upto arpUnlikeSpec)) arpUnlikeUptoCard

/-- THE SECOND FORM's CARD OF 'underpasslaw04.ArpTurned'. -/
def arpTurnedUptoCard : Claim7 := { stood := { row := arpTurnedUptoRow, standIns := [], harness := (true, "237f7fa34c8976267ccc2027977a120136ee752037dda713f8b897c4149a1e48"), looks := true }, kinds := [], alts := [], laidByText := true, laidKinds := [.handle], laidTests := true, laidLooks := .later }
def ArpTurnedUptoCardSaid : Prop := Claim7.holds Tryd.pinned (.plain (OpenSpec.upto arpTurnedSpec)) arpTurnedUptoCard
end Rows
end Go.Proofs.YtpmdnpgeohigoaaDoor
