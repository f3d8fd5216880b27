/-
  DERIVED. GIVEN WITH THE SEED: THE CARDS: each row of YtlhanaglhkmcfaaDoorRows.lean that lists a variable, with what it lists TIED to the program's text (the seventh form; the later family's looks); each row that meets fmt, with fmt's text TOLD by the authors' own Lean function (tested against real Go, not proved from fmt's source: count such statements apart). THE CARD IS WHAT COUNTS. Prove the row's statement (the work); the ties are given (YtlhanaglhkmcfaaDoorTie.lean); close each card by the builder's one call (the guide's Derived/Test/ToyasCard.lean, 'card_holds'). Laid BY PROGRAM, IN A SANDBOX (cutbox-door.mjs). By AI agents, Wed Nov 11 2026. No macro, syntax, notation, axiom, sorry.
-/
import Derived.Test.YtlhanaglhkmcfaaDoorRows
import GoSem.ClaimSeven
namespace Go.Proofs.YtlhanaglhkmcfaaDoor
namespace Rows

/-- THE TIED CARD OF 'underpasslaw07.IcmpBack'. -/
def icmpBackCard : Claim7 := { stood := { row := icmpBackRow, standIns := [], harness := (true, "a0ba4ee63cb28e9e5b114fd1d5004261434ff748859626ec46c95ab165cb18e7"), looks := true }, kinds := [], alts := [], laidByText := true, laidKinds := [.handle], laidTests := true, laidLooks := .later }
def IcmpBackCardSaid : Prop := Claim7.holds Tryd.pinned (.plain (OpenSpec.ofChange icmpBackSpec)) icmpBackCard

/-- THE TIED CARD OF 'underpasslaw07.IcmpErrors'. -/
def icmpErrorsCard : Claim7 := { stood := { row := icmpErrorsRow, standIns := [], harness := (true, "a0ba4ee63cb28e9e5b114fd1d5004261434ff748859626ec46c95ab165cb18e7"), looks := true }, kinds := [], alts := [], laidByText := true, laidKinds := [.handle], laidTests := true, laidLooks := .later }
def IcmpErrorsCardSaid : Prop := Claim7.holds Tryd.pinned (.plain (OpenSpec.ofChange icmpErrorsSpec)) icmpErrorsCard

/-- THE SECOND FORM's CARD OF 'underpasslaw07.IcmpBack'. -/
def icmpBackUptoCard : Claim7 := { stood := { row := icmpBackUptoRow, standIns := [], harness := (true, "a0ba4ee63cb28e9e5b114fd1d5004261434ff748859626ec46c95ab165cb18e7"), looks := true }, kinds := [], alts := [], laidByText := true, laidKinds := [.handle], laidTests := true, laidLooks := .later }
def IcmpBackUptoCardSaid : Prop := Claim7.holds Tryd.pinned (.plain (OpenSpec.upto icmpBackSpec)) icmpBackUptoCard

/-- THE SECOND FORM's CARD OF 'underpasslaw07.IcmpErrors'. -/
def icmpErrorsUptoCard : Claim7 := { stood := { row := icmpErrorsUptoRow, standIns := [], harness := (true, "a0ba4ee63cb28e9e5b114fd1d5004261434ff748859626ec46c95ab165cb18e7"), looks := true }, kinds := [], alts := [], laidByText := true, laidKinds := [.handle], laidTests := true, laidLooks := .later }
def IcmpErrorsUptoCardSaid : Prop := Claim7.holds Tryd.pinned (.plain (OpenSpec.upto icmpErrorsSpec)) icmpErrorsUptoCard
end Rows
end Go.Proofs.YtlhanaglhkmcfaaDoor
