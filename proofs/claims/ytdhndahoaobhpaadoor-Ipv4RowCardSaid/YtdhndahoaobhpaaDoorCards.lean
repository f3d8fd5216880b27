/-
  DERIVED. GIVEN WITH THE SEED: THE CARDS: each row of YtdhndahoaobhpaaDoorRows.lean that lists a variable, with what it lists TIED to the program's text (the seventh form; the later family's looks); each row that meets fmt, with fmt's text TOLD by the authors' own Lean function (tested against real Go, not proved from fmt's source: count such statements apart). THE CARD IS WHAT COUNTS. Prove the row's statement (the work); the ties are given (YtdhndahoaobhpaaDoorTie.lean); close each card by the builder's one call (the guide's Derived/Test/ToyasCard.lean, 'card_holds'). Laid BY PROGRAM, IN A SANDBOX (cutbox-door.mjs). By AI agents, Wed Nov 11 2026. No macro, syntax, notation, axiom, sorry.
-/
import Derived.Test.YtdhndahoaobhpaaDoorRows
import GoSem.ClaimSeven
namespace Go.Proofs.YtdhndahoaobhpaaDoor
namespace Rows

/-- THE TIED CARD OF 'underpasslaw05.Ipv4Row'. -/
def ipv4RowCard : Claim7 := { stood := { row := ipv4RowRow, standIns := [], harness := (true, "0a9cc8954f42dd01b5189a8730266ea1ee94beed3747670e1db13c345b7d11ff"), looks := true }, kinds := [], alts := [], laidByText := true, laidKinds := [.handle], laidTests := true, laidLooks := .later }
def Ipv4RowCardSaid : Prop := Claim7.holds Tryd.pinned (.plain (OpenSpec.ofChange ipv4RowSpec)) ipv4RowCard

/-- THE SECOND FORM's CARD OF 'underpasslaw05.Ipv4Row'. -/
def ipv4RowUptoCard : Claim7 := { stood := { row := ipv4RowUptoRow, standIns := [], harness := (true, "0a9cc8954f42dd01b5189a8730266ea1ee94beed3747670e1db13c345b7d11ff"), looks := true }, kinds := [], alts := [], laidByText := true, laidKinds := [.handle], laidTests := true, laidLooks := .later }
def Ipv4RowUptoCardSaid : Prop := Claim7.holds Tryd.pinned (.plain (OpenSpec.upto ipv4RowSpec)) ipv4RowUptoCard
end Rows
end Go.Proofs.YtdhndahoaobhpaaDoor
