/-
  DERIVED. GIVEN WITH THE SEED: THE CARDS: each row of YtdmogppkambgaaaDoorRows.lean that lists a variable, with what it lists TIED to the program's text (the seventh form; the later family's looks); each row that meets fmt, with fmt's text TOLD by the authors' own Lean function (tested against real Go, not proved from fmt's source: count such statements apart). THE CARD IS WHAT COUNTS. Prove the row's statement (the work); the ties are given (YtdmogppkambgaaaDoorTie.lean); close each card by the builder's one call (the guide's Derived/Test/ToyasCard.lean, 'card_holds'). Laid BY PROGRAM, IN A SANDBOX (cutbox-door.mjs). By AI agents, Wed Nov 11 2026. No macro, syntax, notation, axiom, sorry.
-/
import Derived.Test.YtdmogppkambgaaaDoorRows
import GoSem.ClaimSeven
namespace Go.Proofs.YtdmogppkambgaaaDoor
namespace Rows

/-- THE TIED CARD OF 'underpasslaw11.VxlanTells'. -/
def vxlanTellsCard : Claim7 := { stood := { row := vxlanTellsRow, standIns := [], harness := (true, "7f7c48ce1b1117841c48ad5a8d734d563000c925c72739566ad89ff52a695792"), looks := true }, kinds := [], alts := [], laidByText := true, laidKinds := [.data, .data, .data, .handle], laidTests := true, laidLooks := .later }
def VxlanTellsCardSaid : Prop := Claim7.holds Tryd.pinned (.plain (OpenSpec.ofChange vxlanTellsSpec)) vxlanTellsCard

/-- THE TIED CARD OF 'underpasslaw10.FragSplits'. -/
def fragSplitsCard : Claim7 := { stood := { row := fragSplitsRow, standIns := [], harness := (true, "7f7c48ce1b1117841c48ad5a8d734d563000c925c72739566ad89ff52a695792"), looks := true }, kinds := [], alts := [], laidByText := true, laidKinds := [.handle], laidTests := true, laidLooks := .later }
def FragSplitsCardSaid : Prop := Claim7.holds Tryd.pinned (.plain (OpenSpec.ofChange fragSplitsSpec)) fragSplitsCard

/-- THE TIED CARD OF 'underpasslaw10.FragBack'. -/
def fragBackCard : Claim7 := { stood := { row := fragBackRow, standIns := [], harness := (true, "7f7c48ce1b1117841c48ad5a8d734d563000c925c72739566ad89ff52a695792"), looks := true }, kinds := [], alts := [], laidByText := true, laidKinds := [.handle], laidTests := true, laidLooks := .later }
def FragBackCardSaid : Prop := Claim7.holds Tryd.pinned (.plain (OpenSpec.ofChange fragBackSpec)) fragBackCard

/-- THE TIED CARD OF 'underpasslaw10.FragTwo'. -/
def fragTwoCard : Claim7 := { stood := { row := fragTwoRow, standIns := [], harness := (true, "7f7c48ce1b1117841c48ad5a8d734d563000c925c72739566ad89ff52a695792"), looks := true }, kinds := [], alts := [], laidByText := true, laidKinds := [.handle], laidTests := true, laidLooks := .later }
def FragTwoCardSaid : Prop := Claim7.holds Tryd.pinned (.plain (OpenSpec.ofChange fragTwoSpec)) fragTwoCard

/-- THE SECOND FORM's CARD OF 'underpasslaw11.VxlanTells'. -/
def vxlanTellsUptoCard : Claim7 := { stood := { row := vxlanTellsUptoRow, standIns := [], harness := (true, "7f7c48ce1b1117841c48ad5a8d734d563000c925c72739566ad89ff52a695792"), looks := true }, kinds := [], alts := [], laidByText := true, laidKinds := [.data, .data, .data, .handle], laidTests := true, laidLooks := .later }
def VxlanTellsUptoCardSaid : Prop := Claim7.holds Tryd.pinned (.plain (OpenSpec.upto vxlanTellsSpec)) vxlanTellsUptoCard

/-- THE SECOND FORM's CARD OF 'underpasslaw10.FragSplits'. -/
def fragSplitsUptoCard : Claim7 := { stood := { row := fragSplitsUptoRow, standIns := [], harness := (true, "7f7c48ce1b1117841c48ad5a8d734d563000c925c72739566ad89ff52a695792"), looks := true }, kinds := [], alts := [], laidByText := true, laidKinds := [.handle], laidTests := true, laidLooks := .later }
def FragSplitsUptoCardSaid : Prop := Claim7.holds Tryd.pinned (.plain (OpenSpec.upto fragSplitsSpec)) fragSplitsUptoCard

/-- THE SECOND FORM's CARD OF 'underpasslaw10.FragBack'. -/
def fragBackUptoCard : Claim7 := { stood := { row := fragBackUptoRow, standIns := [], harness := (true, "7f7c48ce1b1117841c48ad5a8d734d563000c925c72739566ad89ff52a695792"), looks := true }, kinds := [], alts := [], laidByText := true, laidKinds := [.handle], laidTests := true, laidLooks := .later }
def FragBackUptoCardSaid : Prop := Claim7.holds Tryd.pinned (.plain (OpenSpec.upto fragBackSpec)) fragBackUptoCard

/-- THE SECOND FORM's CARD OF 'underpasslaw10.FragTwo'. -/
def fragTwoUptoCard : Claim7 := { stood := { row := fragTwoUptoRow, standIns := [], harness := (true, "7f7c48ce1b1117841c48ad5a8d734d563000c925c72739566ad89ff52a695792"), looks := true }, kinds := [], alts := [], laidByText := true, laidKinds := [.handle], laidTests := true, laidLooks := .later }
def FragTwoUptoCardSaid : Prop := Claim7.holds Tryd.pinned (.plain (OpenSpec.upto fragTwoSpec)) fragTwoUptoCard
end Rows
end Go.Proofs.YtdmogppkambgaaaDoor
