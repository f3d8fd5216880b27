/-
  DERIVED. GIVEN WITH THE SEED: THE CARDS: each row of YtfaimdopaocpkaaDoorRows.lean that lists a variable, with what it lists TIED to the program's text (the seventh form; the later family's looks); each row that meets fmt, with fmt's text TOLD by the authors' own Lean function (tested against real Go, not proved from fmt's source: count such statements apart). THE CARD IS WHAT COUNTS. Prove the row's statement (the work); the ties are given (YtfaimdopaocpkaaDoorTie.lean); close each card by the builder's one call (the guide's Derived/Test/ToyasCard.lean, 'card_holds'). Laid BY PROGRAM, IN A SANDBOX (cutbox-door.mjs). By AI agents, Wed Nov 11 2026. No macro, syntax, notation, axiom, sorry.
-/
import Derived.Test.YtfaimdopaocpkaaDoorRows
import GoSem.ClaimSeven
namespace Go.Proofs.YtfaimdopaocpkaaDoor
namespace Rows

/-- THE TIED CARD OF 'underpasslaw10.FragSplits'. -/
def fragSplitsCard : Claim7 := { stood := { row := fragSplitsRow, standIns := [], harness := (true, "34c7d5436c9360782daa1e51f457dba07d05a67530ab29f5359aba83b903546e"), looks := true }, kinds := [], alts := [], laidByText := true, laidKinds := [.handle], laidTests := true, laidLooks := .later }
def FragSplitsCardSaid : Prop := Claim7.holds Tryd.pinned (.plain (OpenSpec.ofChange fragSplitsSpec)) fragSplitsCard

/-- THE TIED CARD OF 'underpasslaw10.FragBack'. -/
def fragBackCard : Claim7 := { stood := { row := fragBackRow, standIns := [], harness := (true, "34c7d5436c9360782daa1e51f457dba07d05a67530ab29f5359aba83b903546e"), looks := true }, kinds := [], alts := [], laidByText := true, laidKinds := [.handle], laidTests := true, laidLooks := .later }
def FragBackCardSaid : Prop := Claim7.holds Tryd.pinned (.plain (OpenSpec.ofChange fragBackSpec)) fragBackCard

/-- THE TIED CARD OF 'underpasslaw10.FragFits'. -/
def fragFitsCard : Claim7 := { stood := { row := fragFitsRow, standIns := [], harness := (true, "34c7d5436c9360782daa1e51f457dba07d05a67530ab29f5359aba83b903546e"), looks := true }, kinds := [], alts := [], laidByText := true, laidKinds := [.handle], laidTests := true, laidLooks := .later }
def FragFitsCardSaid : Prop := Claim7.holds Tryd.pinned (.plain (OpenSpec.ofChange fragFitsSpec)) fragFitsCard

/-- THE TIED CARD OF 'underpasslaw10.FragBounds'. -/
def fragBoundsCard : Claim7 := { stood := { row := fragBoundsRow, standIns := [], harness := (true, "34c7d5436c9360782daa1e51f457dba07d05a67530ab29f5359aba83b903546e"), looks := true }, kinds := [], alts := [], laidByText := true, laidKinds := [.handle], laidTests := true, laidLooks := .later }
def FragBoundsCardSaid : Prop := Claim7.holds Tryd.pinned (.plain (OpenSpec.ofChange fragBoundsSpec)) fragBoundsCard

/-- THE TIED CARD OF 'underpasslaw10.FragTwo'. -/
def fragTwoCard : Claim7 := { stood := { row := fragTwoRow, standIns := [], harness := (true, "34c7d5436c9360782daa1e51f457dba07d05a67530ab29f5359aba83b903546e"), looks := true }, kinds := [], alts := [], laidByText := true, laidKinds := [.handle], laidTests := true, laidLooks := .later }
def FragTwoCardSaid : Prop := Claim7.holds Tryd.pinned (.plain (OpenSpec.ofChange fragTwoSpec)) fragTwoCard

/-- THE TIED CARD OF 'underpasslaw10.FragSpoilt'. -/
def fragSpoiltCard : Claim7 := { stood := { row := fragSpoiltRow, standIns := [], harness := (true, "34c7d5436c9360782daa1e51f457dba07d05a67530ab29f5359aba83b903546e"), looks := true }, kinds := [], alts := [], laidByText := true, laidKinds := [.handle], laidTests := true, laidLooks := .later }
def FragSpoiltCardSaid : Prop := Claim7.holds Tryd.pinned (.plain (OpenSpec.ofChange fragSpoiltSpec)) fragSpoiltCard

/-- THE TIED CARD OF 'underpasslaw10.FragGap'. -/
def fragGapCard : Claim7 := { stood := { row := fragGapRow, standIns := [], harness := (true, "34c7d5436c9360782daa1e51f457dba07d05a67530ab29f5359aba83b903546e"), looks := true }, kinds := [], alts := [], laidByText := true, laidKinds := [.handle], laidTests := true, laidLooks := .later }
def FragGapCardSaid : Prop := Claim7.holds Tryd.pinned (.plain (OpenSpec.ofChange fragGapSpec)) fragGapCard

/-- THE TIED CARD OF 'underpasslaw10.FragFull'. -/
def fragFullCard : Claim7 := { stood := { row := fragFullRow, standIns := [], harness := (true, "34c7d5436c9360782daa1e51f457dba07d05a67530ab29f5359aba83b903546e"), looks := true }, kinds := [], alts := [], laidByText := true, laidKinds := [.handle], laidTests := true, laidLooks := .later }
def FragFullCardSaid : Prop := Claim7.holds Tryd.pinned (.plain (OpenSpec.ofChange fragFullSpec)) fragFullCard

/-- THE TIED CARD OF 'underpasslaw10.FragTwice'. -/
def fragTwiceCard : Claim7 := { stood := { row := fragTwiceRow, standIns := [], harness := (true, "34c7d5436c9360782daa1e51f457dba07d05a67530ab29f5359aba83b903546e"), looks := true }, kinds := [], alts := [], laidByText := true, laidKinds := [.handle], laidTests := true, laidLooks := .later }
def FragTwiceCardSaid : Prop := Claim7.holds Tryd.pinned (.plain (OpenSpec.ofChange fragTwiceSpec)) fragTwiceCard

/-- THE SECOND FORM's CARD OF 'underpasslaw10.FragSplits'. -/
def fragSplitsUptoCard : Claim7 := { stood := { row := fragSplitsUptoRow, standIns := [], harness := (true, "34c7d5436c9360782daa1e51f457dba07d05a67530ab29f5359aba83b903546e"), looks := true }, kinds := [], alts := [], laidByText := true, laidKinds := [.handle], laidTests := true, laidLooks := .later }
def FragSplitsUptoCardSaid : Prop := Claim7.holds Tryd.pinned (.plain (OpenSpec.upto fragSplitsSpec)) fragSplitsUptoCard

/-- THE SECOND FORM's CARD OF 'underpasslaw10.FragBack'. -/
def fragBackUptoCard : Claim7 := { stood := { row := fragBackUptoRow, standIns := [], harness := (true, "34c7d5436c9360782daa1e51f457dba07d05a67530ab29f5359aba83b903546e"), looks := true }, kinds := [], alts := [], laidByText := true, laidKinds := [.handle], laidTests := true, laidLooks := .later }
def FragBackUptoCardSaid : Prop := Claim7.holds Tryd.pinned (.plain (OpenSpec.upto fragBackSpec)) fragBackUptoCard

/-- THE SECOND FORM's CARD OF 'underpasslaw10.FragFits'. -/
def fragFitsUptoCard : Claim7 := { stood := { row := fragFitsUptoRow, standIns := [], harness := (true, "34c7d5436c9360782daa1e51f457dba07d05a67530ab29f5359aba83b903546e"), looks := true }, kinds := [], alts := [], laidByText := true, laidKinds := [.handle], laidTests := true, laidLooks := .later }
def FragFitsUptoCardSaid : Prop := Claim7.holds Tryd.pinned (.plain (OpenSpec.upto fragFitsSpec)) fragFitsUptoCard

/-- THE SECOND FORM's CARD OF 'underpasslaw10.FragBounds'. -/
def fragBoundsUptoCard : Claim7 := { stood := { row := fragBoundsUptoRow, standIns := [], harness := (true, "34c7d5436c9360782daa1e51f457dba07d05a67530ab29f5359aba83b903546e"), looks := true }, kinds := [], alts := [], laidByText := true, laidKinds := [.handle], laidTests := true, laidLooks := .later }
def FragBoundsUptoCardSaid : Prop := Claim7.holds Tryd.pinned (.plain (OpenSpec.upto fragBoundsSpec)) fragBoundsUptoCard

/-- THE SECOND FORM's CARD OF 'underpasslaw10.FragTwo'. -/
def fragTwoUptoCard : Claim7 := { stood := { row := fragTwoUptoRow, standIns := [], harness := (true, "34c7d5436c9360782daa1e51f457dba07d05a67530ab29f5359aba83b903546e"), looks := true }, kinds := [], alts := [], laidByText := true, laidKinds := [.handle], laidTests := true, laidLooks := .later }
def FragTwoUptoCardSaid : Prop := Claim7.holds Tryd.pinned (.plain (OpenSpec.upto fragTwoSpec)) fragTwoUptoCard

/-- THE SECOND FORM's CARD OF 'underpasslaw10.FragSpoilt'. -/
def fragSpoiltUptoCard : Claim7 := { stood := { row := fragSpoiltUptoRow, standIns := [], harness := (true, "34c7d5436c9360782daa1e51f457dba07d05a67530ab29f5359aba83b903546e"), looks := true }, kinds := [], alts := [], laidByText := true, laidKinds := [.handle], laidTests := true, laidLooks := .later }
def FragSpoiltUptoCardSaid : Prop := Claim7.holds Tryd.pinned (.plain (OpenSpec.upto fragSpoiltSpec)) fragSpoiltUptoCard

/-- THE SECOND FORM's CARD OF 'underpasslaw10.FragGap'. -/
def fragGapUptoCard : Claim7 := { stood := { row := fragGapUptoRow, standIns := [], harness := (true, "34c7d5436c9360782daa1e51f457dba07d05a67530ab29f5359aba83b903546e"), looks := true }, kinds := [], alts := [], laidByText := true, laidKinds := [.handle], laidTests := true, laidLooks := .later }
def FragGapUptoCardSaid : Prop := Claim7.holds Tryd.pinned (.plain (OpenSpec.upto fragGapSpec)) fragGapUptoCard

/-- THE SECOND FORM's CARD OF 'underpasslaw10.FragFull'. -/
def fragFullUptoCard : Claim7 := { stood := { row := fragFullUptoRow, standIns := [], harness := (true, "34c7d5436c9360782daa1e51f457dba07d05a67530ab29f5359aba83b903546e"), looks := true }, kinds := [], alts := [], laidByText := true, laidKinds := [.handle], laidTests := true, laidLooks := .later }
def FragFullUptoCardSaid : Prop := Claim7.holds Tryd.pinned (.plain (OpenSpec.upto fragFullSpec)) fragFullUptoCard

/-- THE SECOND FORM's CARD OF 'underpasslaw10.FragTwice'. -/
def fragTwiceUptoCard : Claim7 := { stood := { row := fragTwiceUptoRow, standIns := [], harness := (true, "34c7d5436c9360782daa1e51f457dba07d05a67530ab29f5359aba83b903546e"), looks := true }, kinds := [], alts := [], laidByText := true, laidKinds := [.handle], laidTests := true, laidLooks := .later }
def FragTwiceUptoCardSaid : Prop := Claim7.holds Tryd.pinned (.plain (OpenSpec.upto fragTwiceSpec)) fragTwiceUptoCard
end Rows
end Go.Proofs.YtfaimdopaocpkaaDoor
