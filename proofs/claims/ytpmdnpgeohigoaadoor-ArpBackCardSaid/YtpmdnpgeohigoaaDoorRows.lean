/-
  NARROWER THAN 'FOR EVERY INPUT', by the rows' own cells (each row's printed sentence says how): ArpTells: laid · ArpBack: laid · ArpCuts: laid · ArpUnlike: laid · ArpTurned: laid.
  DERIVED. THE GIVEN ROWS OF THIS SEAT. 5 by the template 'for every input the law returns true; each argument reads behind the call as it read before'; 0 by the template 'total and deterministic' (their statements: YtpmdnpgeohigoaaDoorTotals.lean).
  GIVEN WITH THE SEED: the statements are not yours to turn. If you find one false, say at which input.
  Laid BY PROGRAM, IN A SANDBOX (cutbox-rows.mjs): the forced cells as the released guide's own fill.sh prints them over the translation 657d244c34f72b54… (all of the seat's roots in one cut). By AI agents, Wed Nov 11 2026. No macro, syntax, notation, axiom, sorry.
-/
import Derived.Test.YtpmdnpgeohigoaaDoorChecked
import GoSem.Claim
import GoSem.ClaimJoined
import GoSem.ClaimMapViews
import Derived.JoinedTies
import Derived.KernelRfl
namespace Go.Proofs.YtpmdnpgeohigoaaDoor
/- THE CELL 'sum', in the pinned program and in every row, IS THE sha256 OF THE DUMP (.gsa) THAT YtpmdnpgeohigoaaDoorProg.lean LOADS. Nothing in Lean hashes anything: it is a label: what it is worth is what the hold of that sum in a sandbox is worth. -/
noncomputable def Tryd.pinned : Pinned := { name := "ytpmdnpgeohigoaadoor", sum := "657d244c34f72b5404a2f4f82efe0010f0883b7a77ebab27b53e0fe710ce2f0b", checked := Tryd.checked }
namespace Rows
def none {H : Type} : Left H := { results := [], args := [] }

/- WHAT THE LISTED PACKAGE-LEVEL VARIABLES READ AS WHEN THE CALL BEGINS. Each datum BY PROGRAM (the guide's laid-datum.mjs) off the statement by which the dump's own 'gosem.cut.vars' lays the variable. In a bare row this is a premise. The card (YtpmdnpgeohigoaaDoorCards.lean) ties it to the program's text. -/
def laid_errors_errorType {H : Type} : DataW H := .iface "internal/reflectlite.rtype" (.agg [.ptr (.lit (.string [101, 114, 114, 111, 114]))])

/-- 'underpasslaw04.ArpTells': WHATEVER THE INPUT: true; the input reads as it did. -/
def arpTellsSpec : ChangeSpec := { name := "arpTells", fn := fun _ => fun
  | [d1, d2] => { results := [.lit (.bool true)], args := [d1, d2] }
  | _ => none }
def arpTellsRow : OpenClaim := { program := "ytpmdnpgeohigoaadoor", sum := "657d244c34f72b5404a2f4f82efe0010f0883b7a77ebab27b53e0fe710ce2f0b", func := "underpass/underpasslaw04.ArpTells", spec := "arpTells", inPlace := ["internal/reflectlite.ValueOf", "(internal/reflectlite.Value).Type", "(internal/reflectlite.Value).IsNil", "internal/reflectlite.TypeOf", "(internal/reflectlite.Value).Elem", "(internal/reflectlite.Value).Set"], unfollowed := true, recurses := true, named := ["errors.errorType"], apart := false, laid := [("errors.errorType", laid_errors_errorType)] }
def ArpTellsSaid : Prop := arpTellsRow.holds Tryd.pinned (OpenSpec.ofChange arpTellsSpec)

/-- ITS FALSE NEIGHBOUR: 'it returns false'. Refute it at one input. -/
def arpTellsWrong : ChangeSpec := { name := "arpTells", fn := fun _ => fun
  | [d1, d2] => { results := [.lit (.bool false)], args := [d1, d2] }
  | _ => none }
def ArpTellsWrongFalsely : Prop := arpTellsRow.holds Tryd.pinned (OpenSpec.ofChange arpTellsWrong)

/-- 'underpasslaw04.ArpBack': WHATEVER THE INPUT: true; the input reads as it did. -/
def arpBackSpec : ChangeSpec := { name := "arpBack", fn := fun _ => fun
  | [d1, d2, d3] => { results := [.lit (.bool true)], args := [d1, d2, d3] }
  | _ => none }
def arpBackRow : OpenClaim := { program := "ytpmdnpgeohigoaadoor", sum := "657d244c34f72b5404a2f4f82efe0010f0883b7a77ebab27b53e0fe710ce2f0b", func := "underpass/underpasslaw04.ArpBack", spec := "arpBack", inPlace := ["internal/reflectlite.ValueOf", "(internal/reflectlite.Value).Type", "(internal/reflectlite.Value).IsNil", "internal/reflectlite.TypeOf", "(internal/reflectlite.Value).Elem", "(internal/reflectlite.Value).Set"], unfollowed := true, recurses := true, named := ["errors.errorType"], apart := false, laid := [("errors.errorType", laid_errors_errorType)] }
def ArpBackSaid : Prop := arpBackRow.holds Tryd.pinned (OpenSpec.ofChange arpBackSpec)

/-- ITS FALSE NEIGHBOUR: 'it returns false'. Refute it at one input. -/
def arpBackWrong : ChangeSpec := { name := "arpBack", fn := fun _ => fun
  | [d1, d2, d3] => { results := [.lit (.bool false)], args := [d1, d2, d3] }
  | _ => none }
def ArpBackWrongFalsely : Prop := arpBackRow.holds Tryd.pinned (OpenSpec.ofChange arpBackWrong)

/-- 'underpasslaw04.ArpCuts': WHATEVER THE INPUT: true; the input reads as it did. -/
def arpCutsSpec : ChangeSpec := { name := "arpCuts", fn := fun _ => fun
  | [d1, d2, d3] => { results := [.lit (.bool true)], args := [d1, d2, d3] }
  | _ => none }
def arpCutsRow : OpenClaim := { program := "ytpmdnpgeohigoaadoor", sum := "657d244c34f72b5404a2f4f82efe0010f0883b7a77ebab27b53e0fe710ce2f0b", func := "underpass/underpasslaw04.ArpCuts", spec := "arpCuts", inPlace := ["internal/reflectlite.ValueOf", "(internal/reflectlite.Value).Type", "(internal/reflectlite.Value).IsNil", "internal/reflectlite.TypeOf", "(internal/reflectlite.Value).Elem", "(internal/reflectlite.Value).Set"], unfollowed := true, recurses := true, named := ["errors.errorType"], apart := false, laid := [("errors.errorType", laid_errors_errorType)] }
def ArpCutsSaid : Prop := arpCutsRow.holds Tryd.pinned (OpenSpec.ofChange arpCutsSpec)

/-- ITS FALSE NEIGHBOUR: 'it returns false'. Refute it at one input. -/
def arpCutsWrong : ChangeSpec := { name := "arpCuts", fn := fun _ => fun
  | [d1, d2, d3] => { results := [.lit (.bool false)], args := [d1, d2, d3] }
  | _ => none }
def ArpCutsWrongFalsely : Prop := arpCutsRow.holds Tryd.pinned (OpenSpec.ofChange arpCutsWrong)

/-- 'underpasslaw04.ArpUnlike': WHATEVER THE INPUT: true; the input reads as it did. -/
def arpUnlikeSpec : ChangeSpec := { name := "arpUnlike", fn := fun _ => fun
  | [d1, d2] => { results := [.lit (.bool true)], args := [d1, d2] }
  | _ => none }
def arpUnlikeRow : OpenClaim := { program := "ytpmdnpgeohigoaadoor", sum := "657d244c34f72b5404a2f4f82efe0010f0883b7a77ebab27b53e0fe710ce2f0b", func := "underpass/underpasslaw04.ArpUnlike", spec := "arpUnlike", inPlace := ["internal/reflectlite.ValueOf", "(internal/reflectlite.Value).Type", "(internal/reflectlite.Value).IsNil", "internal/reflectlite.TypeOf", "(internal/reflectlite.Value).Elem", "(internal/reflectlite.Value).Set"], unfollowed := true, recurses := true, named := ["errors.errorType"], apart := false, laid := [("errors.errorType", laid_errors_errorType)] }
def ArpUnlikeSaid : Prop := arpUnlikeRow.holds Tryd.pinned (OpenSpec.ofChange arpUnlikeSpec)

/-- ITS FALSE NEIGHBOUR: 'it returns false'. Refute it at one input. -/
def arpUnlikeWrong : ChangeSpec := { name := "arpUnlike", fn := fun _ => fun
  | [d1, d2] => { results := [.lit (.bool false)], args := [d1, d2] }
  | _ => none }
def ArpUnlikeWrongFalsely : Prop := arpUnlikeRow.holds Tryd.pinned (OpenSpec.ofChange arpUnlikeWrong)

/-- 'underpasslaw04.ArpTurned': WHATEVER THE INPUT: true; the input reads as it did. -/
def arpTurnedSpec : ChangeSpec := { name := "arpTurned", fn := fun _ => fun
  | [d] => { results := [.lit (.bool true)], args := [d] }
  | _ => none }
def arpTurnedRow : OpenClaim := { program := "ytpmdnpgeohigoaadoor", sum := "657d244c34f72b5404a2f4f82efe0010f0883b7a77ebab27b53e0fe710ce2f0b", func := "underpass/underpasslaw04.ArpTurned", spec := "arpTurned", inPlace := ["internal/reflectlite.ValueOf", "(internal/reflectlite.Value).Type", "(internal/reflectlite.Value).IsNil", "internal/reflectlite.TypeOf", "(internal/reflectlite.Value).Elem", "(internal/reflectlite.Value).Set"], unfollowed := true, recurses := true, named := ["errors.errorType"], apart := false, laid := [("errors.errorType", laid_errors_errorType)] }
def ArpTurnedSaid : Prop := arpTurnedRow.holds Tryd.pinned (OpenSpec.ofChange arpTurnedSpec)

/-- ITS FALSE NEIGHBOUR: 'it returns false'. Refute it at one input. -/
def arpTurnedWrong : ChangeSpec := { name := "arpTurned", fn := fun _ => fun
  | [d] => { results := [.lit (.bool false)], args := [d] }
  | _ => none }
def ArpTurnedWrongFalsely : Prop := arpTurnedRow.holds Tryd.pinned (OpenSpec.ofChange arpTurnedWrong)

/- THE SECOND FORM. 'bulk': how many values and letters a reading holds, each counted each time it is reached (what is shared counts as often as it is met; a slice's spare places count too). A statement '..UptoSaid' is the law's where the arguments, and the package variables that the reading takes, are together of bulk at most 1048576: NARROWER than '..Said'. Prove '..Said' where nothing that the law and all that it calls make is longer than what came in: it says more and counts as full. Else prove '..UptoSaid'. A law counts once. -/
mutual
def uptoBulk {H : Type} : DataW H → Nat
  | .lit (.string bytes) => bytes.length + 1
  | .lit _ => 1
  | .nil => 1
  | .ptr d => uptoBulk d + 1
  | .slice elems spare => uptoBulkAll elems + uptoBulkAll spare + 1
  | .agg parts => uptoBulkAll parts + 1
  | .iface _ d => uptoBulk d + 1
  | .map entries => uptoBulkEntries entries + 1
  | .held _ => 1
def uptoBulkAll {H : Type} : List (DataW H) → Nat
  | [] => 0
  | d :: r => uptoBulk d + uptoBulkAll r
def uptoBulkEntries {H : Type} : List (Lit × DataW H) → Nat
  | [] => 0
  | x :: r => uptoBulkEntry x + uptoBulkEntries r
def uptoBulkEntry {H : Type} : Lit × DataW H → Nat
  | (.string bytes, d) => bytes.length + uptoBulk d + 1
  | (_, d) => uptoBulk d + 1
 end
def uptoSmall : (H : Type) → List (DataW H) → Bool := fun _ ds => decide (uptoBulkAll ds ≤ 1048576)
def OpenSpec.upto (s : _root_.Go.ChangeSpec) : _root_.Go.OpenSpec := { _root_.Go.OpenSpec.ofChange s with cond := some uptoSmall }

/-- 'underpasslaw04.ArpTells', WHERE WHAT IT READS IS OF BULK AT MOST 1048576: true; the input reads as it did. -/
def arpTellsUptoRow : OpenClaim := { program := "ytpmdnpgeohigoaadoor", sum := "657d244c34f72b5404a2f4f82efe0010f0883b7a77ebab27b53e0fe710ce2f0b", func := "underpass/underpasslaw04.ArpTells", spec := "arpTells", inPlace := ["internal/reflectlite.ValueOf", "(internal/reflectlite.Value).Type", "(internal/reflectlite.Value).IsNil", "internal/reflectlite.TypeOf", "(internal/reflectlite.Value).Elem", "(internal/reflectlite.Value).Set"], unfollowed := true, recurses := true, named := ["errors.errorType"], apart := false, laid := [("errors.errorType", laid_errors_errorType)], narrowed := true }
def ArpTellsUptoSaid : Prop := arpTellsUptoRow.holds Tryd.pinned (OpenSpec.upto arpTellsSpec)

/-- 'underpasslaw04.ArpBack', WHERE WHAT IT READS IS OF BULK AT MOST 1048576: true; the input reads as it did. -/
def arpBackUptoRow : OpenClaim := { program := "ytpmdnpgeohigoaadoor", sum := "657d244c34f72b5404a2f4f82efe0010f0883b7a77ebab27b53e0fe710ce2f0b", func := "underpass/underpasslaw04.ArpBack", spec := "arpBack", inPlace := ["internal/reflectlite.ValueOf", "(internal/reflectlite.Value).Type", "(internal/reflectlite.Value).IsNil", "internal/reflectlite.TypeOf", "(internal/reflectlite.Value).Elem", "(internal/reflectlite.Value).Set"], unfollowed := true, recurses := true, named := ["errors.errorType"], apart := false, laid := [("errors.errorType", laid_errors_errorType)], narrowed := true }
def ArpBackUptoSaid : Prop := arpBackUptoRow.holds Tryd.pinned (OpenSpec.upto arpBackSpec)

/-- 'underpasslaw04.ArpCuts', WHERE WHAT IT READS IS OF BULK AT MOST 1048576: true; the input reads as it did. -/
def arpCutsUptoRow : OpenClaim := { program := "ytpmdnpgeohigoaadoor", sum := "657d244c34f72b5404a2f4f82efe0010f0883b7a77ebab27b53e0fe710ce2f0b", func := "underpass/underpasslaw04.ArpCuts", spec := "arpCuts", inPlace := ["internal/reflectlite.ValueOf", "(internal/reflectlite.Value).Type", "(internal/reflectlite.Value).IsNil", "internal/reflectlite.TypeOf", "(internal/reflectlite.Value).Elem", "(internal/reflectlite.Value).Set"], unfollowed := true, recurses := true, named := ["errors.errorType"], apart := false, laid := [("errors.errorType", laid_errors_errorType)], narrowed := true }
def ArpCutsUptoSaid : Prop := arpCutsUptoRow.holds Tryd.pinned (OpenSpec.upto arpCutsSpec)

/-- 'underpasslaw04.ArpUnlike', WHERE WHAT IT READS IS OF BULK AT MOST 1048576: true; the input reads as it did. -/
def arpUnlikeUptoRow : OpenClaim := { program := "ytpmdnpgeohigoaadoor", sum := "657d244c34f72b5404a2f4f82efe0010f0883b7a77ebab27b53e0fe710ce2f0b", func := "underpass/underpasslaw04.ArpUnlike", spec := "arpUnlike", inPlace := ["internal/reflectlite.ValueOf", "(internal/reflectlite.Value).Type", "(internal/reflectlite.Value).IsNil", "internal/reflectlite.TypeOf", "(internal/reflectlite.Value).Elem", "(internal/reflectlite.Value).Set"], unfollowed := true, recurses := true, named := ["errors.errorType"], apart := false, laid := [("errors.errorType", laid_errors_errorType)], narrowed := true }
def ArpUnlikeUptoSaid : Prop := arpUnlikeUptoRow.holds Tryd.pinned (OpenSpec.upto arpUnlikeSpec)

/-- 'underpasslaw04.ArpTurned', WHERE WHAT IT READS IS OF BULK AT MOST 1048576: true; the input reads as it did. -/
def arpTurnedUptoRow : OpenClaim := { program := "ytpmdnpgeohigoaadoor", sum := "657d244c34f72b5404a2f4f82efe0010f0883b7a77ebab27b53e0fe710ce2f0b", func := "underpass/underpasslaw04.ArpTurned", spec := "arpTurned", inPlace := ["internal/reflectlite.ValueOf", "(internal/reflectlite.Value).Type", "(internal/reflectlite.Value).IsNil", "internal/reflectlite.TypeOf", "(internal/reflectlite.Value).Elem", "(internal/reflectlite.Value).Set"], unfollowed := true, recurses := true, named := ["errors.errorType"], apart := false, laid := [("errors.errorType", laid_errors_errorType)], narrowed := true }
def ArpTurnedUptoSaid : Prop := arpTurnedUptoRow.holds Tryd.pinned (OpenSpec.upto arpTurnedSpec)

end Rows
end Go.Proofs.YtpmdnpgeohigoaaDoor
