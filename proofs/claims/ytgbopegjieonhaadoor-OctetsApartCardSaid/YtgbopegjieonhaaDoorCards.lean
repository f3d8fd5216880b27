/-
  DERIVED. GIVEN WITH THE SEED: THE CARDS: each row of YtgbopegjieonhaaDoorRows.lean that lists a variable, with what it lists TIED to the program's text (the seventh form; the later family's looks); each row that meets fmt, with fmt's text TOLD by the authors' own Lean function (tested against real Go, not proved from fmt's source: count such statements apart). THE CARD IS WHAT COUNTS. Prove the row's statement (the work); the ties are given (YtgbopegjieonhaaDoorTie.lean); close each card by the builder's one call (the guide's Derived/Test/ToyasCard.lean, 'card_holds'). Laid BY PROGRAM, IN A SANDBOX (cutbox-door.mjs). By AI agents, Wed Nov 11 2026. No macro, syntax, notation, axiom, sorry.
-/
import Derived.Test.YtgbopegjieonhaaDoorRows
import GoSem.ClaimSeven
namespace Go.Proofs.YtgbopegjieonhaaDoor
namespace Rows

/-- THE TIED CARD OF 'underpasslaw01.OctetsReads'. -/
def octetsReadsCard : Claim7 := { stood := { row := octetsReadsRow, standIns := [], harness := (true, "ddeb7fca78df25aa20d7b3769a2bc944688377c21fd563c90f287229ba60fb0a"), looks := true }, kinds := [], alts := [], laidByText := true, laidKinds := [.handle], laidTests := true, laidLooks := .later }
def OctetsReadsCardSaid : Prop := Claim7.holds Tryd.pinned (.plain (OpenSpec.ofChange octetsReadsSpec)) octetsReadsCard

/-- THE TIED CARD OF 'underpasslaw01.OctetsWrites'. -/
def octetsWritesCard : Claim7 := { stood := { row := octetsWritesRow, standIns := [], harness := (true, "ddeb7fca78df25aa20d7b3769a2bc944688377c21fd563c90f287229ba60fb0a"), looks := true }, kinds := [], alts := [], laidByText := true, laidKinds := [.handle], laidTests := true, laidLooks := .later }
def OctetsWritesCardSaid : Prop := Claim7.holds Tryd.pinned (.plain (OpenSpec.ofChange octetsWritesSpec)) octetsWritesCard

/-- THE TIED CARD OF 'underpasslaw01.OctetsBack'. -/
def octetsBackCard : Claim7 := { stood := { row := octetsBackRow, standIns := [], harness := (true, "ddeb7fca78df25aa20d7b3769a2bc944688377c21fd563c90f287229ba60fb0a"), looks := true }, kinds := [], alts := [], laidByText := true, laidKinds := [.handle], laidTests := true, laidLooks := .later }
def OctetsBackCardSaid : Prop := Claim7.holds Tryd.pinned (.plain (OpenSpec.ofChange octetsBackSpec)) octetsBackCard

/-- THE TIED CARD OF 'underpasslaw01.OctetsParts'. -/
def octetsPartsCard : Claim7 := { stood := { row := octetsPartsRow, standIns := [], harness := (true, "ddeb7fca78df25aa20d7b3769a2bc944688377c21fd563c90f287229ba60fb0a"), looks := true }, kinds := [], alts := [], laidByText := true, laidKinds := [.handle], laidTests := true, laidLooks := .later }
def OctetsPartsCardSaid : Prop := Claim7.holds Tryd.pinned (.plain (OpenSpec.ofChange octetsPartsSpec)) octetsPartsCard

/-- THE TIED CARD OF 'underpasslaw01.OctetsNumbers'. -/
def octetsNumbersCard : Claim7 := { stood := { row := octetsNumbersRow, standIns := [], harness := (true, "ddeb7fca78df25aa20d7b3769a2bc944688377c21fd563c90f287229ba60fb0a"), looks := true }, kinds := [], alts := [], laidByText := true, laidKinds := [.handle], laidTests := true, laidLooks := .later }
def OctetsNumbersCardSaid : Prop := Claim7.holds Tryd.pinned (.plain (OpenSpec.ofChange octetsNumbersSpec)) octetsNumbersCard

/-- THE TIED CARD OF 'underpasslaw01.OctetsApart'. -/
def octetsApartCard : Claim7 := { stood := { row := octetsApartRow, standIns := [], harness := (true, "ddeb7fca78df25aa20d7b3769a2bc944688377c21fd563c90f287229ba60fb0a"), looks := true }, kinds := [], alts := [], laidByText := true, laidKinds := [.handle], laidTests := true, laidLooks := .later }
def OctetsApartCardSaid : Prop := Claim7.holds Tryd.pinned (.plain (OpenSpec.ofChange octetsApartSpec)) octetsApartCard

/-- THE SECOND FORM's CARD OF 'underpasslaw01.OctetsReads'. -/
def octetsReadsUptoCard : Claim7 := { stood := { row := octetsReadsUptoRow, standIns := [], harness := (true, "ddeb7fca78df25aa20d7b3769a2bc944688377c21fd563c90f287229ba60fb0a"), looks := true }, kinds := [], alts := [], laidByText := true, laidKinds := [.handle], laidTests := true, laidLooks := .later }
def OctetsReadsUptoCardSaid : Prop := Claim7.holds Tryd.pinned (.plain (OpenSpec.upto octetsReadsSpec)) octetsReadsUptoCard

/-- THE SECOND FORM's CARD OF 'underpasslaw01.OctetsWrites'. -/
def octetsWritesUptoCard : Claim7 := { stood := { row := octetsWritesUptoRow, standIns := [], harness := (true, "ddeb7fca78df25aa20d7b3769a2bc944688377c21fd563c90f287229ba60fb0a"), looks := true }, kinds := [], alts := [], laidByText := true, laidKinds := [.handle], laidTests := true, laidLooks := .later }
def OctetsWritesUptoCardSaid : Prop := Claim7.holds Tryd.pinned (.plain (OpenSpec.upto octetsWritesSpec)) octetsWritesUptoCard

/-- THE SECOND FORM's CARD OF 'underpasslaw01.OctetsBack'. -/
def octetsBackUptoCard : Claim7 := { stood := { row := octetsBackUptoRow, standIns := [], harness := (true, "ddeb7fca78df25aa20d7b3769a2bc944688377c21fd563c90f287229ba60fb0a"), looks := true }, kinds := [], alts := [], laidByText := true, laidKinds := [.handle], laidTests := true, laidLooks := .later }
def OctetsBackUptoCardSaid : Prop := Claim7.holds Tryd.pinned (.plain (OpenSpec.upto octetsBackSpec)) octetsBackUptoCard

/-- THE SECOND FORM's CARD OF 'underpasslaw01.OctetsParts'. -/
def octetsPartsUptoCard : Claim7 := { stood := { row := octetsPartsUptoRow, standIns := [], harness := (true, "ddeb7fca78df25aa20d7b3769a2bc944688377c21fd563c90f287229ba60fb0a"), looks := true }, kinds := [], alts := [], laidByText := true, laidKinds := [.handle], laidTests := true, laidLooks := .later }
def OctetsPartsUptoCardSaid : Prop := Claim7.holds Tryd.pinned (.plain (OpenSpec.upto octetsPartsSpec)) octetsPartsUptoCard

/-- THE SECOND FORM's CARD OF 'underpasslaw01.OctetsNumbers'. -/
def octetsNumbersUptoCard : Claim7 := { stood := { row := octetsNumbersUptoRow, standIns := [], harness := (true, "ddeb7fca78df25aa20d7b3769a2bc944688377c21fd563c90f287229ba60fb0a"), looks := true }, kinds := [], alts := [], laidByText := true, laidKinds := [.handle], laidTests := true, laidLooks := .later }
def OctetsNumbersUptoCardSaid : Prop := Claim7.holds Tryd.pinned (.plain (OpenSpec.upto octetsNumbersSpec)) octetsNumbersUptoCard

/-- THE SECOND FORM's CARD OF 'underpasslaw01.OctetsApart'. -/
def octetsApartUptoCard : Claim7 := { stood := { row := octetsApartUptoRow, standIns := [], harness := (true, "ddeb7fca78df25aa20d7b3769a2bc944688377c21fd563c90f287229ba60fb0a"), looks := true }, kinds := [], alts := [], laidByText := true, laidKinds := [.handle], laidTests := true, laidLooks := .later }
def OctetsApartUptoCardSaid : Prop := Claim7.holds Tryd.pinned (.plain (OpenSpec.upto octetsApartSpec)) octetsApartUptoCard
end Rows
end Go.Proofs.YtgbopegjieonhaaDoor
