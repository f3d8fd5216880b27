/-
  DERIVED. GIVEN WITH THE SEED: THE CARDS: each row of YtikcnlcpbifobaaDoorRows.lean that lists a variable, with what it lists TIED to the program's text (the seventh form; the later family's looks); each row that meets fmt, with fmt's text TOLD by the authors' own Lean function (tested against real Go, not proved from fmt's source: count such statements apart). THE CARD IS WHAT COUNTS. Prove the row's statement (the work); the ties are given (YtikcnlcpbifobaaDoorTie.lean); close each card by the builder's one call (the guide's Derived/Test/ToyasCard.lean, 'card_holds'). Laid BY PROGRAM, IN A SANDBOX (cutbox-door.mjs). By AI agents, Wed Nov 11 2026. No macro, syntax, notation, axiom, sorry.
-/
import Derived.Test.YtikcnlcpbifobaaDoorRows
import GoSem.ClaimSeven
namespace Go.Proofs.YtikcnlcpbifobaaDoor
namespace Rows

/-- THE TIED CARD OF 'underpasslaw06.UdpTells'. -/
def udpTellsCard : Claim7 := { stood := { row := udpTellsRow, standIns := [], harness := (true, "7ee7a7679130b5590c23fab75de5b53cbb0e26e48357b36c9e25cfd1591d83f9"), looks := true }, kinds := [], alts := [], laidByText := true, laidKinds := [.handle], laidTests := true, laidLooks := .later }
def UdpTellsCardSaid : Prop := Claim7.holds Tryd.pinned (.plain (OpenSpec.ofChange udpTellsSpec)) udpTellsCard

/-- THE TIED CARD OF 'underpasslaw06.UdpBack'. -/
def udpBackCard : Claim7 := { stood := { row := udpBackRow, standIns := [], harness := (true, "7ee7a7679130b5590c23fab75de5b53cbb0e26e48357b36c9e25cfd1591d83f9"), looks := true }, kinds := [], alts := [], laidByText := true, laidKinds := [.handle], laidTests := true, laidLooks := .later }
def UdpBackCardSaid : Prop := Claim7.holds Tryd.pinned (.plain (OpenSpec.ofChange udpBackSpec)) udpBackCard

/-- THE TIED CARD OF 'underpasslaw06.UdpUnlike'. -/
def udpUnlikeCard : Claim7 := { stood := { row := udpUnlikeRow, standIns := [], harness := (true, "7ee7a7679130b5590c23fab75de5b53cbb0e26e48357b36c9e25cfd1591d83f9"), looks := true }, kinds := [], alts := [], laidByText := true, laidKinds := [.handle], laidTests := true, laidLooks := .later }
def UdpUnlikeCardSaid : Prop := Claim7.holds Tryd.pinned (.plain (OpenSpec.ofChange udpUnlikeSpec)) udpUnlikeCard

/-- THE TIED CARD OF 'underpasslaw06.UdpStrange'. -/
def udpStrangeCard : Claim7 := { stood := { row := udpStrangeRow, standIns := [], harness := (true, "7ee7a7679130b5590c23fab75de5b53cbb0e26e48357b36c9e25cfd1591d83f9"), looks := true }, kinds := [], alts := [], laidByText := true, laidKinds := [.handle], laidTests := true, laidLooks := .later }
def UdpStrangeCardSaid : Prop := Claim7.holds Tryd.pinned (.plain (OpenSpec.ofChange udpStrangeSpec)) udpStrangeCard

/-- THE TIED CARD OF 'underpasslaw06.UdpSizes'. -/
def udpSizesCard : Claim7 := { stood := { row := udpSizesRow, standIns := [], harness := (true, "7ee7a7679130b5590c23fab75de5b53cbb0e26e48357b36c9e25cfd1591d83f9"), looks := true }, kinds := [], alts := [], laidByText := true, laidKinds := [.handle], laidTests := true, laidLooks := .later }
def UdpSizesCardSaid : Prop := Claim7.holds Tryd.pinned (.plain (OpenSpec.ofChange udpSizesSpec)) udpSizesCard

/-- THE SECOND FORM's CARD OF 'underpasslaw06.UdpTells'. -/
def udpTellsUptoCard : Claim7 := { stood := { row := udpTellsUptoRow, standIns := [], harness := (true, "7ee7a7679130b5590c23fab75de5b53cbb0e26e48357b36c9e25cfd1591d83f9"), looks := true }, kinds := [], alts := [], laidByText := true, laidKinds := [.handle], laidTests := true, laidLooks := .later }
def UdpTellsUptoCardSaid : Prop := Claim7.holds Tryd.pinned (.plain (OpenSpec.upto udpTellsSpec)) udpTellsUptoCard

/-- THE SECOND FORM's CARD OF 'underpasslaw06.UdpBack'. -/
def udpBackUptoCard : Claim7 := { stood := { row := udpBackUptoRow, standIns := [], harness := (true, "7ee7a7679130b5590c23fab75de5b53cbb0e26e48357b36c9e25cfd1591d83f9"), looks := true }, kinds := [], alts := [], laidByText := true, laidKinds := [.handle], laidTests := true, laidLooks := .later }
def UdpBackUptoCardSaid : Prop := Claim7.holds Tryd.pinned (.plain (OpenSpec.upto udpBackSpec)) udpBackUptoCard

/-- THE SECOND FORM's CARD OF 'underpasslaw06.UdpUnlike'. -/
def udpUnlikeUptoCard : Claim7 := { stood := { row := udpUnlikeUptoRow, standIns := [], harness := (true, "7ee7a7679130b5590c23fab75de5b53cbb0e26e48357b36c9e25cfd1591d83f9"), looks := true }, kinds := [], alts := [], laidByText := true, laidKinds := [.handle], laidTests := true, laidLooks := .later }
def UdpUnlikeUptoCardSaid : Prop := Claim7.holds Tryd.pinned (.plain (OpenSpec.upto udpUnlikeSpec)) udpUnlikeUptoCard

/-- THE SECOND FORM's CARD OF 'underpasslaw06.UdpStrange'. -/
def udpStrangeUptoCard : Claim7 := { stood := { row := udpStrangeUptoRow, standIns := [], harness := (true, "7ee7a7679130b5590c23fab75de5b53cbb0e26e48357b36c9e25cfd1591d83f9"), looks := true }, kinds := [], alts := [], laidByText := true, laidKinds := [.handle], laidTests := true, laidLooks := .later }
def UdpStrangeUptoCardSaid : Prop := Claim7.holds Tryd.pinned (.plain (OpenSpec.upto udpStrangeSpec)) udpStrangeUptoCard

/-- THE SECOND FORM's CARD OF 'underpasslaw06.UdpSizes'. -/
def udpSizesUptoCard : Claim7 := { stood := { row := udpSizesUptoRow, standIns := [], harness := (true, "7ee7a7679130b5590c23fab75de5b53cbb0e26e48357b36c9e25cfd1591d83f9"), looks := true }, kinds := [], alts := [], laidByText := true, laidKinds := [.handle], laidTests := true, laidLooks := .later }
def UdpSizesUptoCardSaid : Prop := Claim7.holds Tryd.pinned (.plain (OpenSpec.upto udpSizesSpec)) udpSizesUptoCard
end Rows
end Go.Proofs.YtikcnlcpbifobaaDoor
