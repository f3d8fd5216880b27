/-
  DERIVED. GIVEN WITH THE SEED: THE CARDS: each row of YtkpncnbgdammaaaDoorRows.lean that lists a variable, with what it lists TIED to the program's text (the seventh form; the later family's looks); each row that meets fmt, with fmt's text TOLD by the authors' own Lean function (tested against real Go, not proved from fmt's source: count such statements apart). THE CARD IS WHAT COUNTS. Prove the row's statement (the work); the ties are given (YtkpncnbgdammaaaDoorTie.lean); close each card by the builder's one call (the guide's Derived/Test/ToyasCard.lean, 'card_holds'). Laid BY PROGRAM, IN A SANDBOX (cutbox-door.mjs). By AI agents, Wed Nov 11 2026. No macro, syntax, notation, axiom, sorry.
-/
import Derived.Test.YtkpncnbgdammaaaDoorRows
import GoSem.ClaimSeven
namespace Go.Proofs.YtkpncnbgdammaaaDoor
namespace Rows

/-- THE TIED CARD OF 'underpasslaw03.EtherTells'. -/
def etherTellsCard : Claim7 := { stood := { row := etherTellsRow, standIns := [], harness := (true, "053e9c7c82fc8e0edf0cae8b4b5fa7f56374eab001220d2764e30c632c752daa"), looks := true }, kinds := [], alts := [], laidByText := true, laidKinds := [.handle, .data], laidTests := true, laidLooks := .later }
def EtherTellsCardSaid : Prop := Claim7.holds Tryd.pinned (.plain (OpenSpec.ofChange etherTellsSpec)) etherTellsCard

/-- THE TIED CARD OF 'underpasslaw03.EtherBack'. -/
def etherBackCard : Claim7 := { stood := { row := etherBackRow, standIns := [], harness := (true, "053e9c7c82fc8e0edf0cae8b4b5fa7f56374eab001220d2764e30c632c752daa"), looks := true }, kinds := [], alts := [], laidByText := true, laidKinds := [.handle, .data], laidTests := true, laidLooks := .later }
def EtherBackCardSaid : Prop := Claim7.holds Tryd.pinned (.plain (OpenSpec.ofChange etherBackSpec)) etherBackCard

/-- THE TIED CARD OF 'underpasslaw03.EtherSizes'. -/
def etherSizesCard : Claim7 := { stood := { row := etherSizesRow, standIns := [], harness := (true, "053e9c7c82fc8e0edf0cae8b4b5fa7f56374eab001220d2764e30c632c752daa"), looks := true }, kinds := [], alts := [], laidByText := true, laidKinds := [.handle, .data], laidTests := true, laidLooks := .later }
def EtherSizesCardSaid : Prop := Claim7.holds Tryd.pinned (.plain (OpenSpec.ofChange etherSizesSpec)) etherSizesCard

/-- THE TIED CARD OF 'underpasslaw03.EtherCuts'. -/
def etherCutsCard : Claim7 := { stood := { row := etherCutsRow, standIns := [], harness := (true, "053e9c7c82fc8e0edf0cae8b4b5fa7f56374eab001220d2764e30c632c752daa"), looks := true }, kinds := [], alts := [], laidByText := true, laidKinds := [.handle, .data], laidTests := true, laidLooks := .later }
def EtherCutsCardSaid : Prop := Claim7.holds Tryd.pinned (.plain (OpenSpec.ofChange etherCutsSpec)) etherCutsCard

/-- THE TIED CARD OF 'underpasslaw03.EtherTags'. -/
def etherTagsCard : Claim7 := { stood := { row := etherTagsRow, standIns := [], harness := (true, "053e9c7c82fc8e0edf0cae8b4b5fa7f56374eab001220d2764e30c632c752daa"), looks := true }, kinds := [], alts := [], laidByText := true, laidKinds := [.handle, .data], laidTests := true, laidLooks := .later }
def EtherTagsCardSaid : Prop := Claim7.holds Tryd.pinned (.plain (OpenSpec.ofChange etherTagsSpec)) etherTagsCard

/-- THE TIED CARD OF 'underpasslaw03.EtherGroups'. -/
def etherGroupsCard : Claim7 := { stood := { row := etherGroupsRow, standIns := [], harness := (true, "053e9c7c82fc8e0edf0cae8b4b5fa7f56374eab001220d2764e30c632c752daa"), looks := true }, kinds := [], alts := [], laidByText := true, laidKinds := [.handle, .data], laidTests := true, laidLooks := .later }
def EtherGroupsCardSaid : Prop := Claim7.holds Tryd.pinned (.plain (OpenSpec.ofChange etherGroupsSpec)) etherGroupsCard

/-- THE SECOND FORM's CARD OF 'underpasslaw03.EtherTells'. -/
def etherTellsUptoCard : Claim7 := { stood := { row := etherTellsUptoRow, standIns := [], harness := (true, "053e9c7c82fc8e0edf0cae8b4b5fa7f56374eab001220d2764e30c632c752daa"), looks := true }, kinds := [], alts := [], laidByText := true, laidKinds := [.handle, .data], laidTests := true, laidLooks := .later }
def EtherTellsUptoCardSaid : Prop := Claim7.holds Tryd.pinned (.plain (OpenSpec.upto etherTellsSpec)) etherTellsUptoCard

/-- THE SECOND FORM's CARD OF 'underpasslaw03.EtherBack'. -/
def etherBackUptoCard : Claim7 := { stood := { row := etherBackUptoRow, standIns := [], harness := (true, "053e9c7c82fc8e0edf0cae8b4b5fa7f56374eab001220d2764e30c632c752daa"), looks := true }, kinds := [], alts := [], laidByText := true, laidKinds := [.handle, .data], laidTests := true, laidLooks := .later }
def EtherBackUptoCardSaid : Prop := Claim7.holds Tryd.pinned (.plain (OpenSpec.upto etherBackSpec)) etherBackUptoCard

/-- THE SECOND FORM's CARD OF 'underpasslaw03.EtherSizes'. -/
def etherSizesUptoCard : Claim7 := { stood := { row := etherSizesUptoRow, standIns := [], harness := (true, "053e9c7c82fc8e0edf0cae8b4b5fa7f56374eab001220d2764e30c632c752daa"), looks := true }, kinds := [], alts := [], laidByText := true, laidKinds := [.handle, .data], laidTests := true, laidLooks := .later }
def EtherSizesUptoCardSaid : Prop := Claim7.holds Tryd.pinned (.plain (OpenSpec.upto etherSizesSpec)) etherSizesUptoCard

/-- THE SECOND FORM's CARD OF 'underpasslaw03.EtherCuts'. -/
def etherCutsUptoCard : Claim7 := { stood := { row := etherCutsUptoRow, standIns := [], harness := (true, "053e9c7c82fc8e0edf0cae8b4b5fa7f56374eab001220d2764e30c632c752daa"), looks := true }, kinds := [], alts := [], laidByText := true, laidKinds := [.handle, .data], laidTests := true, laidLooks := .later }
def EtherCutsUptoCardSaid : Prop := Claim7.holds Tryd.pinned (.plain (OpenSpec.upto etherCutsSpec)) etherCutsUptoCard

/-- THE SECOND FORM's CARD OF 'underpasslaw03.EtherTags'. -/
def etherTagsUptoCard : Claim7 := { stood := { row := etherTagsUptoRow, standIns := [], harness := (true, "053e9c7c82fc8e0edf0cae8b4b5fa7f56374eab001220d2764e30c632c752daa"), looks := true }, kinds := [], alts := [], laidByText := true, laidKinds := [.handle, .data], laidTests := true, laidLooks := .later }
def EtherTagsUptoCardSaid : Prop := Claim7.holds Tryd.pinned (.plain (OpenSpec.upto etherTagsSpec)) etherTagsUptoCard

/-- THE SECOND FORM's CARD OF 'underpasslaw03.EtherGroups'. -/
def etherGroupsUptoCard : Claim7 := { stood := { row := etherGroupsUptoRow, standIns := [], harness := (true, "053e9c7c82fc8e0edf0cae8b4b5fa7f56374eab001220d2764e30c632c752daa"), looks := true }, kinds := [], alts := [], laidByText := true, laidKinds := [.handle, .data], laidTests := true, laidLooks := .later }
def EtherGroupsUptoCardSaid : Prop := Claim7.holds Tryd.pinned (.plain (OpenSpec.upto etherGroupsSpec)) etherGroupsUptoCard
end Rows
end Go.Proofs.YtkpncnbgdammaaaDoor
