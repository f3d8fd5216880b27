/-
  NARROWER THAN 'FOR EVERY INPUT', by the rows' own cells (each row's printed sentence says how): UdpTells: laid · UdpBack: laid · UdpUnlike: laid · UdpStrange: laid · UdpSizes: laid.
  DERIVED. THE GIVEN ROWS OF THIS SEAT. 5 by the template 'for every input the law returns true; each argument reads behind the call as it read before'; 0 by the template 'total and deterministic' (their statements: YtikcnlcpbifobaaDoorTotals.lean).
  GIVEN WITH THE SEED: the statements are not yours to turn. If you find one false, say at which input.
  Laid BY PROGRAM, IN A SANDBOX (cutbox-rows.mjs): the forced cells as the released guide's own fill.sh prints them over the translation 9f8494076e075120… (all of the seat's roots in one cut). By AI agents, Wed Nov 11 2026. No macro, syntax, notation, axiom, sorry.
-/
import Derived.Test.YtikcnlcpbifobaaDoorChecked
import GoSem.Claim
import GoSem.ClaimJoined
import GoSem.ClaimMapViews
import Derived.JoinedTies
import Derived.KernelRfl
namespace Go.Proofs.YtikcnlcpbifobaaDoor
/- THE CELL 'sum', in the pinned program and in every row, IS THE sha256 OF THE DUMP (.gsa) THAT YtikcnlcpbifobaaDoorProg.lean LOADS. Nothing in Lean hashes anything: it is a label: what it is worth is what the hold of that sum in a sandbox is worth. -/
noncomputable def Tryd.pinned : Pinned := { name := "ytikcnlcpbifobaadoor", sum := "9f8494076e0751207e521a5cb83da72488bd57d829352d14b68c2a62f7c18487", checked := Tryd.checked }
namespace Rows
def none {H : Type} : Left H := { results := [], args := [] }

/- WHAT THE LISTED PACKAGE-LEVEL VARIABLES READ AS WHEN THE CALL BEGINS. Each datum BY PROGRAM (the guide's laid-datum.mjs) off the statement by which the dump's own 'gosem.cut.vars' lays the variable. In a bare row this is a premise. The card (YtikcnlcpbifobaaDoorCards.lean) ties it to the program's text. -/
def laid_errors_errorType {H : Type} : DataW H := .iface "internal/reflectlite.rtype" (.agg [.ptr (.lit (.string [101, 114, 114, 111, 114]))])

/-- 'underpasslaw06.UdpTells': WHATEVER THE INPUT: true; the input reads as it did. -/
def udpTellsSpec : ChangeSpec := { name := "udpTells", fn := fun _ => fun
  | [d1, d2, d3, d4] => { results := [.lit (.bool true)], args := [d1, d2, d3, d4] }
  | _ => none }
def udpTellsRow : OpenClaim := { program := "ytikcnlcpbifobaadoor", sum := "9f8494076e0751207e521a5cb83da72488bd57d829352d14b68c2a62f7c18487", func := "underpass/underpasslaw06.UdpTells", spec := "udpTells", inPlace := ["internal/reflectlite.ValueOf", "(internal/reflectlite.Value).Type", "(internal/reflectlite.Value).IsNil", "internal/reflectlite.TypeOf", "(internal/reflectlite.Value).Elem", "(internal/reflectlite.Value).Set"], unfollowed := true, recurses := true, named := ["errors.errorType"], apart := false, laid := [("errors.errorType", laid_errors_errorType)] }
def UdpTellsSaid : Prop := udpTellsRow.holds Tryd.pinned (OpenSpec.ofChange udpTellsSpec)

/-- ITS FALSE NEIGHBOUR: 'it returns false'. Refute it at one input. -/
def udpTellsWrong : ChangeSpec := { name := "udpTells", fn := fun _ => fun
  | [d1, d2, d3, d4] => { results := [.lit (.bool false)], args := [d1, d2, d3, d4] }
  | _ => none }
def UdpTellsWrongFalsely : Prop := udpTellsRow.holds Tryd.pinned (OpenSpec.ofChange udpTellsWrong)

/-- 'underpasslaw06.UdpBack': WHATEVER THE INPUT: true; the input reads as it did. -/
def udpBackSpec : ChangeSpec := { name := "udpBack", fn := fun _ => fun
  | [d1, d2, d3, d4, d5] => { results := [.lit (.bool true)], args := [d1, d2, d3, d4, d5] }
  | _ => none }
def udpBackRow : OpenClaim := { program := "ytikcnlcpbifobaadoor", sum := "9f8494076e0751207e521a5cb83da72488bd57d829352d14b68c2a62f7c18487", func := "underpass/underpasslaw06.UdpBack", spec := "udpBack", inPlace := ["internal/reflectlite.ValueOf", "(internal/reflectlite.Value).Type", "(internal/reflectlite.Value).IsNil", "internal/reflectlite.TypeOf", "(internal/reflectlite.Value).Elem", "(internal/reflectlite.Value).Set"], unfollowed := true, recurses := true, named := ["errors.errorType"], apart := false, laid := [("errors.errorType", laid_errors_errorType)] }
def UdpBackSaid : Prop := udpBackRow.holds Tryd.pinned (OpenSpec.ofChange udpBackSpec)

/-- ITS FALSE NEIGHBOUR: 'it returns false'. Refute it at one input. -/
def udpBackWrong : ChangeSpec := { name := "udpBack", fn := fun _ => fun
  | [d1, d2, d3, d4, d5] => { results := [.lit (.bool false)], args := [d1, d2, d3, d4, d5] }
  | _ => none }
def UdpBackWrongFalsely : Prop := udpBackRow.holds Tryd.pinned (OpenSpec.ofChange udpBackWrong)

/-- 'underpasslaw06.UdpUnlike': WHATEVER THE INPUT: true; the input reads as it did. -/
def udpUnlikeSpec : ChangeSpec := { name := "udpUnlike", fn := fun _ => fun
  | [d1, d2, d3, d4] => { results := [.lit (.bool true)], args := [d1, d2, d3, d4] }
  | _ => none }
def udpUnlikeRow : OpenClaim := { program := "ytikcnlcpbifobaadoor", sum := "9f8494076e0751207e521a5cb83da72488bd57d829352d14b68c2a62f7c18487", func := "underpass/underpasslaw06.UdpUnlike", spec := "udpUnlike", inPlace := ["internal/reflectlite.ValueOf", "(internal/reflectlite.Value).Type", "(internal/reflectlite.Value).IsNil", "internal/reflectlite.TypeOf", "(internal/reflectlite.Value).Elem", "(internal/reflectlite.Value).Set"], unfollowed := true, recurses := true, named := ["errors.errorType"], apart := false, laid := [("errors.errorType", laid_errors_errorType)] }
def UdpUnlikeSaid : Prop := udpUnlikeRow.holds Tryd.pinned (OpenSpec.ofChange udpUnlikeSpec)

/-- ITS FALSE NEIGHBOUR: 'it returns false'. Refute it at one input. -/
def udpUnlikeWrong : ChangeSpec := { name := "udpUnlike", fn := fun _ => fun
  | [d1, d2, d3, d4] => { results := [.lit (.bool false)], args := [d1, d2, d3, d4] }
  | _ => none }
def UdpUnlikeWrongFalsely : Prop := udpUnlikeRow.holds Tryd.pinned (OpenSpec.ofChange udpUnlikeWrong)

/-- 'underpasslaw06.UdpStrange': WHATEVER THE INPUT: true; the input reads as it did. -/
def udpStrangeSpec : ChangeSpec := { name := "udpStrange", fn := fun _ => fun
  | [d1, d2, d3, d4] => { results := [.lit (.bool true)], args := [d1, d2, d3, d4] }
  | _ => none }
def udpStrangeRow : OpenClaim := { program := "ytikcnlcpbifobaadoor", sum := "9f8494076e0751207e521a5cb83da72488bd57d829352d14b68c2a62f7c18487", func := "underpass/underpasslaw06.UdpStrange", spec := "udpStrange", inPlace := ["internal/reflectlite.ValueOf", "(internal/reflectlite.Value).Type", "(internal/reflectlite.Value).IsNil", "internal/reflectlite.TypeOf", "(internal/reflectlite.Value).Elem", "(internal/reflectlite.Value).Set"], unfollowed := true, recurses := true, named := ["errors.errorType"], apart := false, laid := [("errors.errorType", laid_errors_errorType)] }
def UdpStrangeSaid : Prop := udpStrangeRow.holds Tryd.pinned (OpenSpec.ofChange udpStrangeSpec)

/-- ITS FALSE NEIGHBOUR: 'it returns false'. Refute it at one input. -/
def udpStrangeWrong : ChangeSpec := { name := "udpStrange", fn := fun _ => fun
  | [d1, d2, d3, d4] => { results := [.lit (.bool false)], args := [d1, d2, d3, d4] }
  | _ => none }
def UdpStrangeWrongFalsely : Prop := udpStrangeRow.holds Tryd.pinned (OpenSpec.ofChange udpStrangeWrong)

/-- 'underpasslaw06.UdpSizes': WHATEVER THE INPUT: true; the input reads as it did. -/
def udpSizesSpec : ChangeSpec := { name := "udpSizes", fn := fun _ => fun
  | [d1, d2, d3, d4] => { results := [.lit (.bool true)], args := [d1, d2, d3, d4] }
  | _ => none }
def udpSizesRow : OpenClaim := { program := "ytikcnlcpbifobaadoor", sum := "9f8494076e0751207e521a5cb83da72488bd57d829352d14b68c2a62f7c18487", func := "underpass/underpasslaw06.UdpSizes", spec := "udpSizes", inPlace := ["internal/reflectlite.ValueOf", "(internal/reflectlite.Value).Type", "(internal/reflectlite.Value).IsNil", "internal/reflectlite.TypeOf", "(internal/reflectlite.Value).Elem", "(internal/reflectlite.Value).Set"], unfollowed := true, recurses := true, named := ["errors.errorType"], apart := false, laid := [("errors.errorType", laid_errors_errorType)] }
def UdpSizesSaid : Prop := udpSizesRow.holds Tryd.pinned (OpenSpec.ofChange udpSizesSpec)

/-- ITS FALSE NEIGHBOUR: 'it returns false'. Refute it at one input. -/
def udpSizesWrong : ChangeSpec := { name := "udpSizes", fn := fun _ => fun
  | [d1, d2, d3, d4] => { results := [.lit (.bool false)], args := [d1, d2, d3, d4] }
  | _ => none }
def UdpSizesWrongFalsely : Prop := udpSizesRow.holds Tryd.pinned (OpenSpec.ofChange udpSizesWrong)

/- THE SECOND FORM. 'bulk': how many values and letters a reading holds, each counted each time it is reached (what is shared counts as often as it is met; a slice's spare places count too). A statement '..UptoSaid' is the law's where the arguments, and the package variables that the reading takes, are together of bulk at most 1048576: NARROWER than '..Said'. Prove '..Said' where nothing that the law and all that it calls make is longer than what came in: it says more and counts as full. Else prove '..UptoSaid'. A law counts once. -/
mutual
def uptoBulk {H : Type} : DataW H → Nat
  | .lit (.string bytes) => bytes.length + 1
  | .lit _ => 1
  | .nil => 1
  | .ptr d => uptoBulk d + 1
  | .slice elems spare => uptoBulkAll elems + uptoBulkAll spare + 1
  | .agg parts => uptoBulkAll parts + 1
  | .iface _ d => uptoBulk d + 1
  | .map entries => uptoBulkEntries entries + 1
  | .held _ => 1
def uptoBulkAll {H : Type} : List (DataW H) → Nat
  | [] => 0
  | d :: r => uptoBulk d + uptoBulkAll r
def uptoBulkEntries {H : Type} : List (Lit × DataW H) → Nat
  | [] => 0
  | x :: r => uptoBulkEntry x + uptoBulkEntries r
def uptoBulkEntry {H : Type} : Lit × DataW H → Nat
  | (.string bytes, d) => bytes.length + uptoBulk d + 1
  | (_, d) => uptoBulk d + 1
 end
def uptoSmall : (H : Type) → List (DataW H) → Bool := fun _ ds => decide (uptoBulkAll ds ≤ 1048576)
def OpenSpec.upto (s : _root_.Go.ChangeSpec) : _root_.Go.OpenSpec := { _root_.Go.OpenSpec.ofChange s with cond := some uptoSmall }

/-- 'underpasslaw06.UdpTells', WHERE WHAT IT READS IS OF BULK AT MOST 1048576: true; the input reads as it did. -/
def udpTellsUptoRow : OpenClaim := { program := "ytikcnlcpbifobaadoor", sum := "9f8494076e0751207e521a5cb83da72488bd57d829352d14b68c2a62f7c18487", func := "underpass/underpasslaw06.UdpTells", spec := "udpTells", inPlace := ["internal/reflectlite.ValueOf", "(internal/reflectlite.Value).Type", "(internal/reflectlite.Value).IsNil", "internal/reflectlite.TypeOf", "(internal/reflectlite.Value).Elem", "(internal/reflectlite.Value).Set"], unfollowed := true, recurses := true, named := ["errors.errorType"], apart := false, laid := [("errors.errorType", laid_errors_errorType)], narrowed := true }
def UdpTellsUptoSaid : Prop := udpTellsUptoRow.holds Tryd.pinned (OpenSpec.upto udpTellsSpec)

/-- 'underpasslaw06.UdpBack', WHERE WHAT IT READS IS OF BULK AT MOST 1048576: true; the input reads as it did. -/
def udpBackUptoRow : OpenClaim := { program := "ytikcnlcpbifobaadoor", sum := "9f8494076e0751207e521a5cb83da72488bd57d829352d14b68c2a62f7c18487", func := "underpass/underpasslaw06.UdpBack", spec := "udpBack", inPlace := ["internal/reflectlite.ValueOf", "(internal/reflectlite.Value).Type", "(internal/reflectlite.Value).IsNil", "internal/reflectlite.TypeOf", "(internal/reflectlite.Value).Elem", "(internal/reflectlite.Value).Set"], unfollowed := true, recurses := true, named := ["errors.errorType"], apart := false, laid := [("errors.errorType", laid_errors_errorType)], narrowed := true }
def UdpBackUptoSaid : Prop := udpBackUptoRow.holds Tryd.pinned (OpenSpec.upto udpBackSpec)

/-- 'underpasslaw06.UdpUnlike', WHERE WHAT IT READS IS OF BULK AT MOST 1048576: true; the input reads as it did. -/
def udpUnlikeUptoRow : OpenClaim := { program := "ytikcnlcpbifobaadoor", sum := "9f8494076e0751207e521a5cb83da72488bd57d829352d14b68c2a62f7c18487", func := "underpass/underpasslaw06.UdpUnlike", spec := "udpUnlike", inPlace := ["internal/reflectlite.ValueOf", "(internal/reflectlite.Value).Type", "(internal/reflectlite.Value).IsNil", "internal/reflectlite.TypeOf", "(internal/reflectlite.Value).Elem", "(internal/reflectlite.Value).Set"], unfollowed := true, recurses := true, named := ["errors.errorType"], apart := false, laid := [("errors.errorType", laid_errors_errorType)], narrowed := true }
def UdpUnlikeUptoSaid : Prop := udpUnlikeUptoRow.holds Tryd.pinned (OpenSpec.upto udpUnlikeSpec)

/-- 'underpasslaw06.UdpStrange', WHERE WHAT IT READS IS OF BULK AT MOST 1048576: true; the input reads as it did. -/
def udpStrangeUptoRow : OpenClaim := { program := "ytikcnlcpbifobaadoor", sum := "9f8494076e0751207e521a5cb83da72488bd57d829352d14b68c2a62f7c18487", func := "underpass/underpasslaw06.UdpStrange", spec := "udpStrange", inPlace := ["internal/reflectlite.ValueOf", "(internal/reflectlite.Value).Type", "(internal/reflectlite.Value).IsNil", "internal/reflectlite.TypeOf", "(internal/reflectlite.Value).Elem", "(internal/reflectlite.Value).Set"], unfollowed := true, recurses := true, named := ["errors.errorType"], apart := false, laid := [("errors.errorType", laid_errors_errorType)], narrowed := true }
def UdpStrangeUptoSaid : Prop := udpStrangeUptoRow.holds Tryd.pinned (OpenSpec.upto udpStrangeSpec)

/-- 'underpasslaw06.UdpSizes', WHERE WHAT IT READS IS OF BULK AT MOST 1048576: true; the input reads as it did. -/
def udpSizesUptoRow : OpenClaim := { program := "ytikcnlcpbifobaadoor", sum := "9f8494076e0751207e521a5cb83da72488bd57d829352d14b68c2a62f7c18487", func := "underpass/underpasslaw06.UdpSizes", spec := "udpSizes", inPlace := ["internal/reflectlite.ValueOf", "(internal/reflectlite.Value).Type", "(internal/reflectlite.Value).IsNil", "internal/reflectlite.TypeOf", "(internal/reflectlite.Value).Elem", "(internal/reflectlite.Value).Set"], unfollowed := true, recurses := true, named := ["errors.errorType"], apart := false, laid := [("errors.errorType", laid_errors_errorType)], narrowed := true }
def UdpSizesUptoSaid : Prop := udpSizesUptoRow.holds Tryd.pinned (OpenSpec.upto udpSizesSpec)

end Rows
end Go.Proofs.YtikcnlcpbifobaaDoor
