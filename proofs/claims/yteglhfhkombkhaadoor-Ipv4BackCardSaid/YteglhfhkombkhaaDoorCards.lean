/-
  DERIVED. GIVEN WITH THE SEED: THE CARDS: each row of YteglhfhkombkhaaDoorRows.lean that lists a variable, with what it lists TIED to the program's text (the seventh form; the later family's looks); each row that meets fmt, with fmt's text TOLD by the authors' own Lean function (tested against real Go, not proved from fmt's source: count such statements apart). THE CARD IS WHAT COUNTS. Prove the row's statement (the work); the ties are given (YteglhfhkombkhaaDoorTie.lean); close each card by the builder's one call (the guide's Derived/Test/ToyasCard.lean, 'card_holds'). Laid BY PROGRAM, IN A SANDBOX (cutbox-door.mjs). By AI agents, Wed Nov 11 2026. No macro, syntax, notation, axiom, sorry.
-/
import Derived.Test.YteglhfhkombkhaaDoorRows
import GoSem.ClaimSeven
namespace Go.Proofs.YteglhfhkombkhaaDoor
namespace Rows

/-- THE TIED CARD OF 'underpasslaw05.Ipv4Tells'. -/
def ipv4TellsCard : Claim7 := { stood := { row := ipv4TellsRow, standIns := [], harness := (true, "4771129b4a95cec1c00ac1a35709cfeb11853410f2df011f3f828916d43fcd37"), looks := true }, kinds := [], alts := [], laidByText := true, laidKinds := [.handle], laidTests := true, laidLooks := .later }
def Ipv4TellsCardSaid : Prop := Claim7.holds Tryd.pinned (.plain (OpenSpec.ofChange ipv4TellsSpec)) ipv4TellsCard

/-- THE TIED CARD OF 'underpasslaw05.Ipv4Back'. -/
def ipv4BackCard : Claim7 := { stood := { row := ipv4BackRow, standIns := [], harness := (true, "4771129b4a95cec1c00ac1a35709cfeb11853410f2df011f3f828916d43fcd37"), looks := true }, kinds := [], alts := [], laidByText := true, laidKinds := [.handle], laidTests := true, laidLooks := .later }
def Ipv4BackCardSaid : Prop := Claim7.holds Tryd.pinned (.plain (OpenSpec.ofChange ipv4BackSpec)) ipv4BackCard

/-- THE TIED CARD OF 'underpasslaw05.Ipv4Spoilt'. -/
def ipv4SpoiltCard : Claim7 := { stood := { row := ipv4SpoiltRow, standIns := [], harness := (true, "4771129b4a95cec1c00ac1a35709cfeb11853410f2df011f3f828916d43fcd37"), looks := true }, kinds := [], alts := [], laidByText := true, laidKinds := [.handle], laidTests := true, laidLooks := .later }
def Ipv4SpoiltCardSaid : Prop := Claim7.holds Tryd.pinned (.plain (OpenSpec.ofChange ipv4SpoiltSpec)) ipv4SpoiltCard

/-- THE TIED CARD OF 'underpasslaw05.Ipv4Unlike'. -/
def ipv4UnlikeCard : Claim7 := { stood := { row := ipv4UnlikeRow, standIns := [], harness := (true, "4771129b4a95cec1c00ac1a35709cfeb11853410f2df011f3f828916d43fcd37"), looks := true }, kinds := [], alts := [], laidByText := true, laidKinds := [.handle], laidTests := true, laidLooks := .later }
def Ipv4UnlikeCardSaid : Prop := Claim7.holds Tryd.pinned (.plain (OpenSpec.ofChange ipv4UnlikeSpec)) ipv4UnlikeCard

/-- THE TIED CARD OF 'underpasslaw05.Ipv4Fields'. -/
def ipv4FieldsCard : Claim7 := { stood := { row := ipv4FieldsRow, standIns := [], harness := (true, "4771129b4a95cec1c00ac1a35709cfeb11853410f2df011f3f828916d43fcd37"), looks := true }, kinds := [], alts := [], laidByText := true, laidKinds := [.handle], laidTests := true, laidLooks := .later }
def Ipv4FieldsCardSaid : Prop := Claim7.holds Tryd.pinned (.plain (OpenSpec.ofChange ipv4FieldsSpec)) ipv4FieldsCard

/-- THE TIED CARD OF 'underpasslaw05.Ipv4Row'. -/
def ipv4RowCard : Claim7 := { stood := { row := ipv4RowRow, standIns := [], harness := (true, "4771129b4a95cec1c00ac1a35709cfeb11853410f2df011f3f828916d43fcd37"), looks := true }, kinds := [], alts := [], laidByText := true, laidKinds := [.handle], laidTests := true, laidLooks := .later }
def Ipv4RowCardSaid : Prop := Claim7.holds Tryd.pinned (.plain (OpenSpec.ofChange ipv4RowSpec)) ipv4RowCard

/-- THE TIED CARD OF 'underpasslaw05.Ipv4Limits'. -/
def ipv4LimitsCard : Claim7 := { stood := { row := ipv4LimitsRow, standIns := [], harness := (true, "4771129b4a95cec1c00ac1a35709cfeb11853410f2df011f3f828916d43fcd37"), looks := true }, kinds := [], alts := [], laidByText := true, laidKinds := [.handle], laidTests := true, laidLooks := .later }
def Ipv4LimitsCardSaid : Prop := Claim7.holds Tryd.pinned (.plain (OpenSpec.ofChange ipv4LimitsSpec)) ipv4LimitsCard

/-- THE SECOND FORM's CARD OF 'underpasslaw05.Ipv4Tells'. -/
def ipv4TellsUptoCard : Claim7 := { stood := { row := ipv4TellsUptoRow, standIns := [], harness := (true, "4771129b4a95cec1c00ac1a35709cfeb11853410f2df011f3f828916d43fcd37"), looks := true }, kinds := [], alts := [], laidByText := true, laidKinds := [.handle], laidTests := true, laidLooks := .later }
def Ipv4TellsUptoCardSaid : Prop := Claim7.holds Tryd.pinned (.plain (OpenSpec.upto ipv4TellsSpec)) ipv4TellsUptoCard

/-- THE SECOND FORM's CARD OF 'underpasslaw05.Ipv4Back'. -/
def ipv4BackUptoCard : Claim7 := { stood := { row := ipv4BackUptoRow, standIns := [], harness := (true, "4771129b4a95cec1c00ac1a35709cfeb11853410f2df011f3f828916d43fcd37"), looks := true }, kinds := [], alts := [], laidByText := true, laidKinds := [.handle], laidTests := true, laidLooks := .later }
def Ipv4BackUptoCardSaid : Prop := Claim7.holds Tryd.pinned (.plain (OpenSpec.upto ipv4BackSpec)) ipv4BackUptoCard

/-- THE SECOND FORM's CARD OF 'underpasslaw05.Ipv4Spoilt'. -/
def ipv4SpoiltUptoCard : Claim7 := { stood := { row := ipv4SpoiltUptoRow, standIns := [], harness := (true, "4771129b4a95cec1c00ac1a35709cfeb11853410f2df011f3f828916d43fcd37"), looks := true }, kinds := [], alts := [], laidByText := true, laidKinds := [.handle], laidTests := true, laidLooks := .later }
def Ipv4SpoiltUptoCardSaid : Prop := Claim7.holds Tryd.pinned (.plain (OpenSpec.upto ipv4SpoiltSpec)) ipv4SpoiltUptoCard

/-- THE SECOND FORM's CARD OF 'underpasslaw05.Ipv4Unlike'. -/
def ipv4UnlikeUptoCard : Claim7 := { stood := { row := ipv4UnlikeUptoRow, standIns := [], harness := (true, "4771129b4a95cec1c00ac1a35709cfeb11853410f2df011f3f828916d43fcd37"), looks := true }, kinds := [], alts := [], laidByText := true, laidKinds := [.handle], laidTests := true, laidLooks := .later }
def Ipv4UnlikeUptoCardSaid : Prop := Claim7.holds Tryd.pinned (.plain (OpenSpec.upto ipv4UnlikeSpec)) ipv4UnlikeUptoCard

/-- THE SECOND FORM's CARD OF 'underpasslaw05.Ipv4Fields'. -/
def ipv4FieldsUptoCard : Claim7 := { stood := { row := ipv4FieldsUptoRow, standIns := [], harness := (true, "4771129b4a95cec1c00ac1a35709cfeb11853410f2df011f3f828916d43fcd37"), looks := true }, kinds := [], alts := [], laidByText := true, laidKinds := [.handle], laidTests := true, laidLooks := .later }
def Ipv4FieldsUptoCardSaid : Prop := Claim7.holds Tryd.pinned (.plain (OpenSpec.upto ipv4FieldsSpec)) ipv4FieldsUptoCard

/-- THE SECOND FORM's CARD OF 'underpasslaw05.Ipv4Row'. -/
def ipv4RowUptoCard : Claim7 := { stood := { row := ipv4RowUptoRow, standIns := [], harness := (true, "4771129b4a95cec1c00ac1a35709cfeb11853410f2df011f3f828916d43fcd37"), looks := true }, kinds := [], alts := [], laidByText := true, laidKinds := [.handle], laidTests := true, laidLooks := .later }
def Ipv4RowUptoCardSaid : Prop := Claim7.holds Tryd.pinned (.plain (OpenSpec.upto ipv4RowSpec)) ipv4RowUptoCard

/-- THE SECOND FORM's CARD OF 'underpasslaw05.Ipv4Limits'. -/
def ipv4LimitsUptoCard : Claim7 := { stood := { row := ipv4LimitsUptoRow, standIns := [], harness := (true, "4771129b4a95cec1c00ac1a35709cfeb11853410f2df011f3f828916d43fcd37"), looks := true }, kinds := [], alts := [], laidByText := true, laidKinds := [.handle], laidTests := true, laidLooks := .later }
def Ipv4LimitsUptoCardSaid : Prop := Claim7.holds Tryd.pinned (.plain (OpenSpec.upto ipv4LimitsSpec)) ipv4LimitsUptoCard
end Rows
end Go.Proofs.YteglhfhkombkhaaDoor
