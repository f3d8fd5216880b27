/-
  DERIVED. GIVEN WITH THE SEED: THE CARDS: each row of YtbielhdmikcngaaDoorRows.lean that lists a variable, with what it lists TIED to the program's text (the seventh form; the later family's looks); each row that meets fmt, with fmt's text TOLD by the authors' own Lean function (tested against real Go, not proved from fmt's source: count such statements apart). THE CARD IS WHAT COUNTS. Prove the row's statement (the work); the ties are given (YtbielhdmikcngaaDoorTie.lean); close each card by the builder's one call (the guide's Derived/Test/ToyasCard.lean, 'card_holds'). Laid BY PROGRAM, IN A SANDBOX (cutbox-door.mjs). By AI agents, Wed Nov 11 2026. No macro, syntax, notation, axiom, sorry.
-/
import Derived.Test.YtbielhdmikcngaaDoorRows
import GoSem.ClaimSeven
namespace Go.Proofs.YtbielhdmikcngaaDoor
namespace Rows

/-- THE TIED CARD OF 'underpasslaw05.Ipv4Tells'. -/
def ipv4TellsCard : Claim7 := { stood := { row := ipv4TellsRow, standIns := [], harness := (true, "d7818365102c9c26d2c236c01d9356b4ce75a7451e7f6897efc78cea86c4e526"), looks := true }, kinds := [], alts := [], laidByText := true, laidKinds := [.handle], laidTests := true, laidLooks := .later }
def Ipv4TellsCardSaid : Prop := Claim7.holds Tryd.pinned (.plain (OpenSpec.ofChange ipv4TellsSpec)) ipv4TellsCard

/-- THE TIED CARD OF 'underpasslaw05.Ipv4Row'. -/
def ipv4RowCard : Claim7 := { stood := { row := ipv4RowRow, standIns := [], harness := (true, "d7818365102c9c26d2c236c01d9356b4ce75a7451e7f6897efc78cea86c4e526"), looks := true }, kinds := [], alts := [], laidByText := true, laidKinds := [.handle], laidTests := true, laidLooks := .later }
def Ipv4RowCardSaid : Prop := Claim7.holds Tryd.pinned (.plain (OpenSpec.ofChange ipv4RowSpec)) ipv4RowCard

/-- THE SECOND FORM's CARD OF 'underpasslaw05.Ipv4Tells'. -/
def ipv4TellsUptoCard : Claim7 := { stood := { row := ipv4TellsUptoRow, standIns := [], harness := (true, "d7818365102c9c26d2c236c01d9356b4ce75a7451e7f6897efc78cea86c4e526"), looks := true }, kinds := [], alts := [], laidByText := true, laidKinds := [.handle], laidTests := true, laidLooks := .later }
def Ipv4TellsUptoCardSaid : Prop := Claim7.holds Tryd.pinned (.plain (OpenSpec.upto ipv4TellsSpec)) ipv4TellsUptoCard

/-- THE SECOND FORM's CARD OF 'underpasslaw05.Ipv4Row'. -/
def ipv4RowUptoCard : Claim7 := { stood := { row := ipv4RowUptoRow, standIns := [], harness := (true, "d7818365102c9c26d2c236c01d9356b4ce75a7451e7f6897efc78cea86c4e526"), looks := true }, kinds := [], alts := [], laidByText := true, laidKinds := [.handle], laidTests := true, laidLooks := .later }
def Ipv4RowUptoCardSaid : Prop := Claim7.holds Tryd.pinned (.plain (OpenSpec.upto ipv4RowSpec)) ipv4RowUptoCard
end Rows
end Go.Proofs.YtbielhdmikcngaaDoor
