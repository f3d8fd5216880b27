/-
  NARROWER THAN 'FOR EVERY INPUT', by the rows' own cells (each row's printed sentence says how): FragSplits: laid · FragBack: laid · FragFits: laid · FragBounds: laid · FragTwo: laid · FragSpoilt: laid · FragGap: laid · FragFull: laid · FragTwice: laid.
  DERIVED. THE GIVEN ROWS OF THIS SEAT. 9 by the template 'for every input the law returns true; each argument reads behind the call as it read before'; 0 by the template 'total and deterministic' (their statements: YtfaimdopaocpkaaDoorTotals.lean).
  GIVEN WITH THE SEED: the statements are not yours to turn. If you find one false, say at which input.
  Laid BY PROGRAM, IN A SANDBOX (cutbox-rows.mjs): the forced cells as the released guide's own fill.sh prints them over the translation 02c4c921ec1aeae2… (all of the seat's roots in one cut). By AI agents, Wed Nov 11 2026. No macro, syntax, notation, axiom, sorry.
-/
import Derived.Test.YtfaimdopaocpkaaDoorChecked
import GoSem.Claim
import GoSem.ClaimJoined
import GoSem.ClaimMapViews
import Derived.JoinedTies
import Derived.KernelRfl
namespace Go.Proofs.YtfaimdopaocpkaaDoor
/- THE CELL 'sum', in the pinned program and in every row, IS THE sha256 OF THE DUMP (.gsa) THAT YtfaimdopaocpkaaDoorProg.lean LOADS. Nothing in Lean hashes anything: it is a label: what it is worth is what the hold of that sum in a sandbox is worth. -/
noncomputable def Tryd.pinned : Pinned := { name := "ytfaimdopaocpkaadoor", sum := "02c4c921ec1aeae2282e19c6bbe4f34818deeb925b3e35441ea1891b866fb39a", checked := Tryd.checked }
namespace Rows
def none {H : Type} : Left H := { results := [], args := [] }

/- WHAT THE LISTED PACKAGE-LEVEL VARIABLES READ AS WHEN THE CALL BEGINS. Each datum BY PROGRAM (the guide's laid-datum.mjs) off the statement by which the dump's own 'gosem.cut.vars' lays the variable. In a bare row this is a premise. The card (YtfaimdopaocpkaaDoorCards.lean) ties it to the program's text. -/
def laid_errors_errorType {H : Type} : DataW H := .iface "internal/reflectlite.rtype" (.agg [.ptr (.lit (.string [101, 114, 114, 111, 114]))])

/-- 'underpasslaw10.FragSplits': WHATEVER THE INPUT: true; the input reads as it did. -/
def fragSplitsSpec : ChangeSpec := { name := "fragSplits", fn := fun _ => fun
  | [d1, d2] => { results := [.lit (.bool true)], args := [d1, d2] }
  | _ => none }
def fragSplitsRow : OpenClaim := { program := "ytfaimdopaocpkaadoor", sum := "02c4c921ec1aeae2282e19c6bbe4f34818deeb925b3e35441ea1891b866fb39a", func := "underpass/underpasslaw10.FragSplits", spec := "fragSplits", inPlace := ["internal/reflectlite.ValueOf", "(internal/reflectlite.Value).Type", "(internal/reflectlite.Value).IsNil", "internal/reflectlite.TypeOf", "(internal/reflectlite.Value).Elem", "(internal/reflectlite.Value).Set"], unfollowed := true, recurses := true, named := ["errors.errorType"], plainKeys := false, apart := false, laid := [("errors.errorType", laid_errors_errorType)] }
def FragSplitsSaid : Prop := fragSplitsRow.holds Tryd.pinned (OpenSpec.ofChange fragSplitsSpec)

/-- ITS FALSE NEIGHBOUR: 'it returns false'. Refute it at one input. -/
def fragSplitsWrong : ChangeSpec := { name := "fragSplits", fn := fun _ => fun
  | [d1, d2] => { results := [.lit (.bool false)], args := [d1, d2] }
  | _ => none }
def FragSplitsWrongFalsely : Prop := fragSplitsRow.holds Tryd.pinned (OpenSpec.ofChange fragSplitsWrong)

/-- 'underpasslaw10.FragBack': WHATEVER THE INPUT: true; the input reads as it did. -/
def fragBackSpec : ChangeSpec := { name := "fragBack", fn := fun _ => fun
  | [d1, d2, d3, d4, d5] => { results := [.lit (.bool true)], args := [d1, d2, d3, d4, d5] }
  | _ => none }
def fragBackRow : OpenClaim := { program := "ytfaimdopaocpkaadoor", sum := "02c4c921ec1aeae2282e19c6bbe4f34818deeb925b3e35441ea1891b866fb39a", func := "underpass/underpasslaw10.FragBack", spec := "fragBack", inPlace := ["internal/reflectlite.ValueOf", "(internal/reflectlite.Value).Type", "(internal/reflectlite.Value).IsNil", "internal/reflectlite.TypeOf", "(internal/reflectlite.Value).Elem", "(internal/reflectlite.Value).Set"], unfollowed := true, recurses := true, named := ["errors.errorType"], plainKeys := false, apart := false, laid := [("errors.errorType", laid_errors_errorType)] }
def FragBackSaid : Prop := fragBackRow.holds Tryd.pinned (OpenSpec.ofChange fragBackSpec)

/-- ITS FALSE NEIGHBOUR: 'it returns false'. Refute it at one input. -/
def fragBackWrong : ChangeSpec := { name := "fragBack", fn := fun _ => fun
  | [d1, d2, d3, d4, d5] => { results := [.lit (.bool false)], args := [d1, d2, d3, d4, d5] }
  | _ => none }
def FragBackWrongFalsely : Prop := fragBackRow.holds Tryd.pinned (OpenSpec.ofChange fragBackWrong)

/-- 'underpasslaw10.FragFits': WHATEVER THE INPUT: true; the input reads as it did. -/
def fragFitsSpec : ChangeSpec := { name := "fragFits", fn := fun _ => fun
  | [d1, d2] => { results := [.lit (.bool true)], args := [d1, d2] }
  | _ => none }
def fragFitsRow : OpenClaim := { program := "ytfaimdopaocpkaadoor", sum := "02c4c921ec1aeae2282e19c6bbe4f34818deeb925b3e35441ea1891b866fb39a", func := "underpass/underpasslaw10.FragFits", spec := "fragFits", inPlace := ["internal/reflectlite.ValueOf", "(internal/reflectlite.Value).Type", "(internal/reflectlite.Value).IsNil", "internal/reflectlite.TypeOf", "(internal/reflectlite.Value).Elem", "(internal/reflectlite.Value).Set"], unfollowed := true, recurses := true, named := ["errors.errorType"], plainKeys := false, apart := false, laid := [("errors.errorType", laid_errors_errorType)] }
def FragFitsSaid : Prop := fragFitsRow.holds Tryd.pinned (OpenSpec.ofChange fragFitsSpec)

/-- ITS FALSE NEIGHBOUR: 'it returns false'. Refute it at one input. -/
def fragFitsWrong : ChangeSpec := { name := "fragFits", fn := fun _ => fun
  | [d1, d2] => { results := [.lit (.bool false)], args := [d1, d2] }
  | _ => none }
def FragFitsWrongFalsely : Prop := fragFitsRow.holds Tryd.pinned (OpenSpec.ofChange fragFitsWrong)

/-- 'underpasslaw10.FragBounds': WHATEVER THE INPUT: true; the input reads as it did. -/
def fragBoundsSpec : ChangeSpec := { name := "fragBounds", fn := fun _ => fun
  | [d1, d2] => { results := [.lit (.bool true)], args := [d1, d2] }
  | _ => none }
def fragBoundsRow : OpenClaim := { program := "ytfaimdopaocpkaadoor", sum := "02c4c921ec1aeae2282e19c6bbe4f34818deeb925b3e35441ea1891b866fb39a", func := "underpass/underpasslaw10.FragBounds", spec := "fragBounds", inPlace := ["internal/reflectlite.ValueOf", "(internal/reflectlite.Value).Type", "(internal/reflectlite.Value).IsNil", "internal/reflectlite.TypeOf", "(internal/reflectlite.Value).Elem", "(internal/reflectlite.Value).Set"], unfollowed := true, recurses := true, named := ["errors.errorType"], plainKeys := false, apart := false, laid := [("errors.errorType", laid_errors_errorType)] }
def FragBoundsSaid : Prop := fragBoundsRow.holds Tryd.pinned (OpenSpec.ofChange fragBoundsSpec)

/-- ITS FALSE NEIGHBOUR: 'it returns false'. Refute it at one input. -/
def fragBoundsWrong : ChangeSpec := { name := "fragBounds", fn := fun _ => fun
  | [d1, d2] => { results := [.lit (.bool false)], args := [d1, d2] }
  | _ => none }
def FragBoundsWrongFalsely : Prop := fragBoundsRow.holds Tryd.pinned (OpenSpec.ofChange fragBoundsWrong)

/-- 'underpasslaw10.FragTwo': WHATEVER THE INPUT: true; the input reads as it did. -/
def fragTwoSpec : ChangeSpec := { name := "fragTwo", fn := fun _ => fun
  | [d1, d2, d3, d4] => { results := [.lit (.bool true)], args := [d1, d2, d3, d4] }
  | _ => none }
def fragTwoRow : OpenClaim := { program := "ytfaimdopaocpkaadoor", sum := "02c4c921ec1aeae2282e19c6bbe4f34818deeb925b3e35441ea1891b866fb39a", func := "underpass/underpasslaw10.FragTwo", spec := "fragTwo", inPlace := ["internal/reflectlite.ValueOf", "(internal/reflectlite.Value).Type", "(internal/reflectlite.Value).IsNil", "internal/reflectlite.TypeOf", "(internal/reflectlite.Value).Elem", "(internal/reflectlite.Value).Set"], unfollowed := true, recurses := true, named := ["errors.errorType"], plainKeys := false, apart := false, laid := [("errors.errorType", laid_errors_errorType)] }
def FragTwoSaid : Prop := fragTwoRow.holds Tryd.pinned (OpenSpec.ofChange fragTwoSpec)

/-- ITS FALSE NEIGHBOUR: 'it returns false'. Refute it at one input. -/
def fragTwoWrong : ChangeSpec := { name := "fragTwo", fn := fun _ => fun
  | [d1, d2, d3, d4] => { results := [.lit (.bool false)], args := [d1, d2, d3, d4] }
  | _ => none }
def FragTwoWrongFalsely : Prop := fragTwoRow.holds Tryd.pinned (OpenSpec.ofChange fragTwoWrong)

/-- 'underpasslaw10.FragSpoilt': WHATEVER THE INPUT: true; the input reads as it did. -/
def fragSpoiltSpec : ChangeSpec := { name := "fragSpoilt", fn := fun _ => fun
  | [d1, d2, d3, d4, d5, d6] => { results := [.lit (.bool true)], args := [d1, d2, d3, d4, d5, d6] }
  | _ => none }
def fragSpoiltRow : OpenClaim := { program := "ytfaimdopaocpkaadoor", sum := "02c4c921ec1aeae2282e19c6bbe4f34818deeb925b3e35441ea1891b866fb39a", func := "underpass/underpasslaw10.FragSpoilt", spec := "fragSpoilt", inPlace := ["internal/reflectlite.ValueOf", "(internal/reflectlite.Value).Type", "(internal/reflectlite.Value).IsNil", "internal/reflectlite.TypeOf", "(internal/reflectlite.Value).Elem", "(internal/reflectlite.Value).Set"], unfollowed := true, recurses := true, named := ["errors.errorType"], plainKeys := false, apart := false, laid := [("errors.errorType", laid_errors_errorType)] }
def FragSpoiltSaid : Prop := fragSpoiltRow.holds Tryd.pinned (OpenSpec.ofChange fragSpoiltSpec)

/-- ITS FALSE NEIGHBOUR: 'it returns false'. Refute it at one input. -/
def fragSpoiltWrong : ChangeSpec := { name := "fragSpoilt", fn := fun _ => fun
  | [d1, d2, d3, d4, d5, d6] => { results := [.lit (.bool false)], args := [d1, d2, d3, d4, d5, d6] }
  | _ => none }
def FragSpoiltWrongFalsely : Prop := fragSpoiltRow.holds Tryd.pinned (OpenSpec.ofChange fragSpoiltWrong)

/-- 'underpasslaw10.FragGap': WHATEVER THE INPUT: true; the input reads as it did. -/
def fragGapSpec : ChangeSpec := { name := "fragGap", fn := fun _ => fun
  | [d1, d2, d3, d4] => { results := [.lit (.bool true)], args := [d1, d2, d3, d4] }
  | _ => none }
def fragGapRow : OpenClaim := { program := "ytfaimdopaocpkaadoor", sum := "02c4c921ec1aeae2282e19c6bbe4f34818deeb925b3e35441ea1891b866fb39a", func := "underpass/underpasslaw10.FragGap", spec := "fragGap", inPlace := ["internal/reflectlite.ValueOf", "(internal/reflectlite.Value).Type", "(internal/reflectlite.Value).IsNil", "internal/reflectlite.TypeOf", "(internal/reflectlite.Value).Elem", "(internal/reflectlite.Value).Set"], unfollowed := true, recurses := true, named := ["errors.errorType"], plainKeys := false, apart := false, laid := [("errors.errorType", laid_errors_errorType)] }
def FragGapSaid : Prop := fragGapRow.holds Tryd.pinned (OpenSpec.ofChange fragGapSpec)

/-- ITS FALSE NEIGHBOUR: 'it returns false'. Refute it at one input. -/
def fragGapWrong : ChangeSpec := { name := "fragGap", fn := fun _ => fun
  | [d1, d2, d3, d4] => { results := [.lit (.bool false)], args := [d1, d2, d3, d4] }
  | _ => none }
def FragGapWrongFalsely : Prop := fragGapRow.holds Tryd.pinned (OpenSpec.ofChange fragGapWrong)

/-- 'underpasslaw10.FragFull': WHATEVER THE INPUT: true; the input reads as it did. -/
def fragFullSpec : ChangeSpec := { name := "fragFull", fn := fun _ => fun
  | [d] => { results := [.lit (.bool true)], args := [d] }
  | _ => none }
def fragFullRow : OpenClaim := { program := "ytfaimdopaocpkaadoor", sum := "02c4c921ec1aeae2282e19c6bbe4f34818deeb925b3e35441ea1891b866fb39a", func := "underpass/underpasslaw10.FragFull", spec := "fragFull", inPlace := ["internal/reflectlite.ValueOf", "(internal/reflectlite.Value).Type", "(internal/reflectlite.Value).IsNil", "internal/reflectlite.TypeOf", "(internal/reflectlite.Value).Elem", "(internal/reflectlite.Value).Set"], unfollowed := true, recurses := true, named := ["errors.errorType"], plainKeys := false, apart := false, laid := [("errors.errorType", laid_errors_errorType)] }
def FragFullSaid : Prop := fragFullRow.holds Tryd.pinned (OpenSpec.ofChange fragFullSpec)

/-- ITS FALSE NEIGHBOUR: 'it returns false'. Refute it at one input. -/
def fragFullWrong : ChangeSpec := { name := "fragFull", fn := fun _ => fun
  | [d] => { results := [.lit (.bool false)], args := [d] }
  | _ => none }
def FragFullWrongFalsely : Prop := fragFullRow.holds Tryd.pinned (OpenSpec.ofChange fragFullWrong)

/-- 'underpasslaw10.FragTwice': WHATEVER THE INPUT: true; the input reads as it did. -/
def fragTwiceSpec : ChangeSpec := { name := "fragTwice", fn := fun _ => fun
  | [d1, d2, d3] => { results := [.lit (.bool true)], args := [d1, d2, d3] }
  | _ => none }
def fragTwiceRow : OpenClaim := { program := "ytfaimdopaocpkaadoor", sum := "02c4c921ec1aeae2282e19c6bbe4f34818deeb925b3e35441ea1891b866fb39a", func := "underpass/underpasslaw10.FragTwice", spec := "fragTwice", inPlace := ["internal/reflectlite.ValueOf", "(internal/reflectlite.Value).Type", "(internal/reflectlite.Value).IsNil", "internal/reflectlite.TypeOf", "(internal/reflectlite.Value).Elem", "(internal/reflectlite.Value).Set"], unfollowed := true, recurses := true, named := ["errors.errorType"], plainKeys := false, apart := false, laid := [("errors.errorType", laid_errors_errorType)] }
def FragTwiceSaid : Prop := fragTwiceRow.holds Tryd.pinned (OpenSpec.ofChange fragTwiceSpec)

/-- ITS FALSE NEIGHBOUR: 'it returns false'. Refute it at one input. -/
def fragTwiceWrong : ChangeSpec := { name := "fragTwice", fn := fun _ => fun
  | [d1, d2, d3] => { results := [.lit (.bool false)], args := [d1, d2, d3] }
  | _ => none }
def FragTwiceWrongFalsely : Prop := fragTwiceRow.holds Tryd.pinned (OpenSpec.ofChange fragTwiceWrong)

/- THE SECOND FORM. 'bulk': how many values and letters a reading holds, each counted each time it is reached (what is shared counts as often as it is met; a slice's spare places count too). A statement '..UptoSaid' is the law's where the arguments, and the package variables that the reading takes, are together of bulk at most 1048576: NARROWER than '..Said'. Prove '..Said' where nothing that the law and all that it calls make is longer than what came in: it says more and counts as full. Else prove '..UptoSaid'. A law counts once. -/
mutual
def uptoBulk {H : Type} : DataW H → Nat
  | .lit (.string bytes) => bytes.length + 1
  | .lit _ => 1
  | .nil => 1
  | .ptr d => uptoBulk d + 1
  | .slice elems spare => uptoBulkAll elems + uptoBulkAll spare + 1
  | .agg parts => uptoBulkAll parts + 1
  | .iface _ d => uptoBulk d + 1
  | .map entries => uptoBulkEntries entries + 1
  | .held _ => 1
def uptoBulkAll {H : Type} : List (DataW H) → Nat
  | [] => 0
  | d :: r => uptoBulk d + uptoBulkAll r
def uptoBulkEntries {H : Type} : List (Lit × DataW H) → Nat
  | [] => 0
  | x :: r => uptoBulkEntry x + uptoBulkEntries r
def uptoBulkEntry {H : Type} : Lit × DataW H → Nat
  | (.string bytes, d) => bytes.length + uptoBulk d + 1
  | (_, d) => uptoBulk d + 1
 end
def uptoSmall : (H : Type) → List (DataW H) → Bool := fun _ ds => decide (uptoBulkAll ds ≤ 1048576)
def OpenSpec.upto (s : _root_.Go.ChangeSpec) : _root_.Go.OpenSpec := { _root_.Go.OpenSpec.ofChange s with cond := some uptoSmall }

/-- 'underpasslaw10.FragSplits', WHERE WHAT IT READS IS OF BULK AT MOST 1048576: true; the input reads as it did. -/
def fragSplitsUptoRow : OpenClaim := { program := "ytfaimdopaocpkaadoor", sum := "02c4c921ec1aeae2282e19c6bbe4f34818deeb925b3e35441ea1891b866fb39a", func := "underpass/underpasslaw10.FragSplits", spec := "fragSplits", inPlace := ["internal/reflectlite.ValueOf", "(internal/reflectlite.Value).Type", "(internal/reflectlite.Value).IsNil", "internal/reflectlite.TypeOf", "(internal/reflectlite.Value).Elem", "(internal/reflectlite.Value).Set"], unfollowed := true, recurses := true, named := ["errors.errorType"], plainKeys := false, apart := false, laid := [("errors.errorType", laid_errors_errorType)], narrowed := true }
def FragSplitsUptoSaid : Prop := fragSplitsUptoRow.holds Tryd.pinned (OpenSpec.upto fragSplitsSpec)

/-- 'underpasslaw10.FragBack', WHERE WHAT IT READS IS OF BULK AT MOST 1048576: true; the input reads as it did. -/
def fragBackUptoRow : OpenClaim := { program := "ytfaimdopaocpkaadoor", sum := "02c4c921ec1aeae2282e19c6bbe4f34818deeb925b3e35441ea1891b866fb39a", func := "underpass/underpasslaw10.FragBack", spec := "fragBack", inPlace := ["internal/reflectlite.ValueOf", "(internal/reflectlite.Value).Type", "(internal/reflectlite.Value).IsNil", "internal/reflectlite.TypeOf", "(internal/reflectlite.Value).Elem", "(internal/reflectlite.Value).Set"], unfollowed := true, recurses := true, named := ["errors.errorType"], plainKeys := false, apart := false, laid := [("errors.errorType", laid_errors_errorType)], narrowed := true }
def FragBackUptoSaid : Prop := fragBackUptoRow.holds Tryd.pinned (OpenSpec.upto fragBackSpec)

/-- 'underpasslaw10.FragFits', WHERE WHAT IT READS IS OF BULK AT MOST 1048576: true; the input reads as it did. -/
def fragFitsUptoRow : OpenClaim := { program := "ytfaimdopaocpkaadoor", sum := "02c4c921ec1aeae2282e19c6bbe4f34818deeb925b3e35441ea1891b866fb39a", func := "underpass/underpasslaw10.FragFits", spec := "fragFits", inPlace := ["internal/reflectlite.ValueOf", "(internal/reflectlite.Value).Type", "(internal/reflectlite.Value).IsNil", "internal/reflectlite.TypeOf", "(internal/reflectlite.Value).Elem", "(internal/reflectlite.Value).Set"], unfollowed := true, recurses := true, named := ["errors.errorType"], plainKeys := false, apart := false, laid := [("errors.errorType", laid_errors_errorType)], narrowed := true }
def FragFitsUptoSaid : Prop := fragFitsUptoRow.holds Tryd.pinned (OpenSpec.upto fragFitsSpec)

/-- 'underpasslaw10.FragBounds', WHERE WHAT IT READS IS OF BULK AT MOST 1048576: true; the input reads as it did. -/
def fragBoundsUptoRow : OpenClaim := { program := "ytfaimdopaocpkaadoor", sum := "02c4c921ec1aeae2282e19c6bbe4f34818deeb925b3e35441ea1891b866fb39a", func := "underpass/underpasslaw10.FragBounds", spec := "fragBounds", inPlace := ["internal/reflectlite.ValueOf", "(internal/reflectlite.Value).Type", "(internal/reflectlite.Value).IsNil", "internal/reflectlite.TypeOf", "(internal/reflectlite.Value).Elem", "(internal/reflectlite.Value).Set"], unfollowed := true, recurses := true, named := ["errors.errorType"], plainKeys := false, apart := false, laid := [("errors.errorType", laid_errors_errorType)], narrowed := true }
def FragBoundsUptoSaid : Prop := fragBoundsUptoRow.holds Tryd.pinned (OpenSpec.upto fragBoundsSpec)

/-- 'underpasslaw10.FragTwo', WHERE WHAT IT READS IS OF BULK AT MOST 1048576: true; the input reads as it did. -/
def fragTwoUptoRow : OpenClaim := { program := "ytfaimdopaocpkaadoor", sum := "02c4c921ec1aeae2282e19c6bbe4f34818deeb925b3e35441ea1891b866fb39a", func := "underpass/underpasslaw10.FragTwo", spec := "fragTwo", inPlace := ["internal/reflectlite.ValueOf", "(internal/reflectlite.Value).Type", "(internal/reflectlite.Value).IsNil", "internal/reflectlite.TypeOf", "(internal/reflectlite.Value).Elem", "(internal/reflectlite.Value).Set"], unfollowed := true, recurses := true, named := ["errors.errorType"], plainKeys := false, apart := false, laid := [("errors.errorType", laid_errors_errorType)], narrowed := true }
def FragTwoUptoSaid : Prop := fragTwoUptoRow.holds Tryd.pinned (OpenSpec.upto fragTwoSpec)

/-- 'underpasslaw10.FragSpoilt', WHERE WHAT IT READS IS OF BULK AT MOST 1048576: true; the input reads as it did. -/
def fragSpoiltUptoRow : OpenClaim := { program := "ytfaimdopaocpkaadoor", sum := "02c4c921ec1aeae2282e19c6bbe4f34818deeb925b3e35441ea1891b866fb39a", func := "underpass/underpasslaw10.FragSpoilt", spec := "fragSpoilt", inPlace := ["internal/reflectlite.ValueOf", "(internal/reflectlite.Value).Type", "(internal/reflectlite.Value).IsNil", "internal/reflectlite.TypeOf", "(internal/reflectlite.Value).Elem", "(internal/reflectlite.Value).Set"], unfollowed := true, recurses := true, named := ["errors.errorType"], plainKeys := false, apart := false, laid := [("errors.errorType", laid_errors_errorType)], narrowed := true }
def FragSpoiltUptoSaid : Prop := fragSpoiltUptoRow.holds Tryd.pinned (OpenSpec.upto fragSpoiltSpec)

/-- 'underpasslaw10.FragGap', WHERE WHAT IT READS IS OF BULK AT MOST 1048576: true; the input reads as it did. -/
def fragGapUptoRow : OpenClaim := { program := "ytfaimdopaocpkaadoor", sum := "02c4c921ec1aeae2282e19c6bbe4f34818deeb925b3e35441ea1891b866fb39a", func := "underpass/underpasslaw10.FragGap", spec := "fragGap", inPlace := ["internal/reflectlite.ValueOf", "(internal/reflectlite.Value).Type", "(internal/reflectlite.Value).IsNil", "internal/reflectlite.TypeOf", "(internal/reflectlite.Value).Elem", "(internal/reflectlite.Value).Set"], unfollowed := true, recurses := true, named := ["errors.errorType"], plainKeys := false, apart := false, laid := [("errors.errorType", laid_errors_errorType)], narrowed := true }
def FragGapUptoSaid : Prop := fragGapUptoRow.holds Tryd.pinned (OpenSpec.upto fragGapSpec)

/-- 'underpasslaw10.FragFull', WHERE WHAT IT READS IS OF BULK AT MOST 1048576: true; the input reads as it did. -/
def fragFullUptoRow : OpenClaim := { program := "ytfaimdopaocpkaadoor", sum := "02c4c921ec1aeae2282e19c6bbe4f34818deeb925b3e35441ea1891b866fb39a", func := "underpass/underpasslaw10.FragFull", spec := "fragFull", inPlace := ["internal/reflectlite.ValueOf", "(internal/reflectlite.Value).Type", "(internal/reflectlite.Value).IsNil", "internal/reflectlite.TypeOf", "(internal/reflectlite.Value).Elem", "(internal/reflectlite.Value).Set"], unfollowed := true, recurses := true, named := ["errors.errorType"], plainKeys := false, apart := false, laid := [("errors.errorType", laid_errors_errorType)], narrowed := true }
def FragFullUptoSaid : Prop := fragFullUptoRow.holds Tryd.pinned (OpenSpec.upto fragFullSpec)

/-- 'underpasslaw10.FragTwice', WHERE WHAT IT READS IS OF BULK AT MOST 1048576: true; the input reads as it did. -/
def fragTwiceUptoRow : OpenClaim := { program := "ytfaimdopaocpkaadoor", sum := "02c4c921ec1aeae2282e19c6bbe4f34818deeb925b3e35441ea1891b866fb39a", func := "underpass/underpasslaw10.FragTwice", spec := "fragTwice", inPlace := ["internal/reflectlite.ValueOf", "(internal/reflectlite.Value).Type", "(internal/reflectlite.Value).IsNil", "internal/reflectlite.TypeOf", "(internal/reflectlite.Value).Elem", "(internal/reflectlite.Value).Set"], unfollowed := true, recurses := true, named := ["errors.errorType"], plainKeys := false, apart := false, laid := [("errors.errorType", laid_errors_errorType)], narrowed := true }
def FragTwiceUptoSaid : Prop := fragTwiceUptoRow.holds Tryd.pinned (OpenSpec.upto fragTwiceSpec)

end Rows
end Go.Proofs.YtfaimdopaocpkaaDoor
