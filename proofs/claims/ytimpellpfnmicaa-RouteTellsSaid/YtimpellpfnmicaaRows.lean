/-
  No cell of these rows narrows 'for every input' (looked for: loops, veiled, ifaces, maps, wideKeys, modest, calm, conditions, laid).
  DERIVED. THE GIVEN ROWS OF THIS SEAT. 6 by the template 'for every input the law returns true; each argument reads behind the call as it read before'; 0 by the template 'total and deterministic' (their statements: YtimpellpfnmicaaTotals.lean).
  GIVEN WITH THE SEED: the statements are not yours to turn. If you find one false, say at which input.
  Laid BY PROGRAM, IN A SANDBOX (cutbox-rows.mjs): the forced cells as the released guide's own fill.sh prints them over the translation 6aa8151b758651aa… (all of the seat's roots in one cut). By AI agents, Wed Nov 11 2026. No macro, syntax, notation, axiom, sorry.
-/
import Derived.Test.YtimpellpfnmicaaChecked
import GoSem.Claim
import GoSem.ClaimJoined
import GoSem.ClaimMapViews
import Derived.JoinedTies
import Derived.KernelRfl
namespace Go.Proofs.Ytimpellpfnmicaa
/- THE CELL 'sum', in the pinned program and in every row, IS THE sha256 OF THE DUMP (.gsa) THAT YtimpellpfnmicaaProg.lean LOADS. Nothing in Lean hashes anything: it is a label: what it is worth is what the hold of that sum in a sandbox is worth. -/
noncomputable def Try.pinned : Pinned := { name := "ytimpellpfnmicaa", sum := "6aa8151b758651aafd5f6c84c3fd61090f2b060993037c1dbdd3ceb2231d20cc", checked := Try.checked }
namespace Rows
def none {H : Type} : Left H := { results := [], args := [] }

/-- 'underpasslaw08.RouteTells': WHATEVER THE INPUT: true; the input reads as it did. -/
def routeTellsSpec : ChangeSpec := { name := "routeTells", fn := fun _ => fun
  | [d] => { results := [.lit (.bool true)], args := [d] }
  | _ => none }
def routeTellsRow : OpenClaim := { program := "ytimpellpfnmicaa", sum := "6aa8151b758651aafd5f6c84c3fd61090f2b060993037c1dbdd3ceb2231d20cc", func := "underpass/underpasslaw08.RouteTells", spec := "routeTells", unfollowed := true, recurses := true, plainKeys := false, apart := false }
def RouteTellsSaid : Prop := routeTellsRow.holds Try.pinned (OpenSpec.ofChange routeTellsSpec)

/-- ITS FALSE NEIGHBOUR: 'it returns false'. Refute it at one input. -/
def routeTellsWrong : ChangeSpec := { name := "routeTells", fn := fun _ => fun
  | [d] => { results := [.lit (.bool false)], args := [d] }
  | _ => none }
def RouteTellsWrongFalsely : Prop := routeTellsRow.holds Try.pinned (OpenSpec.ofChange routeTellsWrong)

/-- 'underpasslaw08.RouteLongest': WHATEVER THE INPUT: true; the input reads as it did. -/
def routeLongestSpec : ChangeSpec := { name := "routeLongest", fn := fun _ => fun
  | [d1, d2] => { results := [.lit (.bool true)], args := [d1, d2] }
  | _ => none }
def routeLongestRow : OpenClaim := { program := "ytimpellpfnmicaa", sum := "6aa8151b758651aafd5f6c84c3fd61090f2b060993037c1dbdd3ceb2231d20cc", func := "underpass/underpasslaw08.RouteLongest", spec := "routeLongest", unfollowed := true, recurses := true, plainKeys := false, apart := false }
def RouteLongestSaid : Prop := routeLongestRow.holds Try.pinned (OpenSpec.ofChange routeLongestSpec)

/-- ITS FALSE NEIGHBOUR: 'it returns false'. Refute it at one input. -/
def routeLongestWrong : ChangeSpec := { name := "routeLongest", fn := fun _ => fun
  | [d1, d2] => { results := [.lit (.bool false)], args := [d1, d2] }
  | _ => none }
def RouteLongestWrongFalsely : Prop := routeLongestRow.holds Try.pinned (OpenSpec.ofChange routeLongestWrong)

/-- 'underpasslaw08.RouteOrder': WHATEVER THE INPUT: true; the input reads as it did. -/
def routeOrderSpec : ChangeSpec := { name := "routeOrder", fn := fun _ => fun
  | [d1, d2] => { results := [.lit (.bool true)], args := [d1, d2] }
  | _ => none }
def routeOrderRow : OpenClaim := { program := "ytimpellpfnmicaa", sum := "6aa8151b758651aafd5f6c84c3fd61090f2b060993037c1dbdd3ceb2231d20cc", func := "underpass/underpasslaw08.RouteOrder", spec := "routeOrder", unfollowed := true, recurses := true, plainKeys := false, apart := false }
def RouteOrderSaid : Prop := routeOrderRow.holds Try.pinned (OpenSpec.ofChange routeOrderSpec)

/-- ITS FALSE NEIGHBOUR: 'it returns false'. Refute it at one input. -/
def routeOrderWrong : ChangeSpec := { name := "routeOrder", fn := fun _ => fun
  | [d1, d2] => { results := [.lit (.bool false)], args := [d1, d2] }
  | _ => none }
def RouteOrderWrongFalsely : Prop := routeOrderRow.holds Try.pinned (OpenSpec.ofChange routeOrderWrong)

/-- 'underpasslaw08.RouteCuts': WHATEVER THE INPUT: true; the input reads as it did. -/
def routeCutsSpec : ChangeSpec := { name := "routeCuts", fn := fun _ => fun
  | [d1, d2, d3] => { results := [.lit (.bool true)], args := [d1, d2, d3] }
  | _ => none }
def routeCutsRow : OpenClaim := { program := "ytimpellpfnmicaa", sum := "6aa8151b758651aafd5f6c84c3fd61090f2b060993037c1dbdd3ceb2231d20cc", func := "underpass/underpasslaw08.RouteCuts", spec := "routeCuts", unfollowed := true, recurses := true, plainKeys := false, apart := false }
def RouteCutsSaid : Prop := routeCutsRow.holds Try.pinned (OpenSpec.ofChange routeCutsSpec)

/-- ITS FALSE NEIGHBOUR: 'it returns false'. Refute it at one input. -/
def routeCutsWrong : ChangeSpec := { name := "routeCuts", fn := fun _ => fun
  | [d1, d2, d3] => { results := [.lit (.bool false)], args := [d1, d2, d3] }
  | _ => none }
def RouteCutsWrongFalsely : Prop := routeCutsRow.holds Try.pinned (OpenSpec.ofChange routeCutsWrong)

/-- 'underpasslaw08.RouteGoes': WHATEVER THE INPUT: true; the input reads as it did. -/
def routeGoesSpec : ChangeSpec := { name := "routeGoes", fn := fun _ => fun
  | [d1, d2, d3] => { results := [.lit (.bool true)], args := [d1, d2, d3] }
  | _ => none }
def routeGoesRow : OpenClaim := { program := "ytimpellpfnmicaa", sum := "6aa8151b758651aafd5f6c84c3fd61090f2b060993037c1dbdd3ceb2231d20cc", func := "underpass/underpasslaw08.RouteGoes", spec := "routeGoes", unfollowed := true, recurses := true, plainKeys := false, apart := false }
def RouteGoesSaid : Prop := routeGoesRow.holds Try.pinned (OpenSpec.ofChange routeGoesSpec)

/-- ITS FALSE NEIGHBOUR: 'it returns false'. Refute it at one input. -/
def routeGoesWrong : ChangeSpec := { name := "routeGoes", fn := fun _ => fun
  | [d1, d2, d3] => { results := [.lit (.bool false)], args := [d1, d2, d3] }
  | _ => none }
def RouteGoesWrongFalsely : Prop := routeGoesRow.holds Try.pinned (OpenSpec.ofChange routeGoesWrong)

/-- 'underpasslaw08.RouteRefines': WHATEVER THE INPUT: true; the input reads as it did. -/
def routeRefinesSpec : ChangeSpec := { name := "routeRefines", fn := fun _ => fun
  | [d1, d2, d3, d4] => { results := [.lit (.bool true)], args := [d1, d2, d3, d4] }
  | _ => none }
def routeRefinesRow : OpenClaim := { program := "ytimpellpfnmicaa", sum := "6aa8151b758651aafd5f6c84c3fd61090f2b060993037c1dbdd3ceb2231d20cc", func := "underpass/underpasslaw08.RouteRefines", spec := "routeRefines", unfollowed := true, recurses := true, plainKeys := false, apart := false }
def RouteRefinesSaid : Prop := routeRefinesRow.holds Try.pinned (OpenSpec.ofChange routeRefinesSpec)

/-- ITS FALSE NEIGHBOUR: 'it returns false'. Refute it at one input. -/
def routeRefinesWrong : ChangeSpec := { name := "routeRefines", fn := fun _ => fun
  | [d1, d2, d3, d4] => { results := [.lit (.bool false)], args := [d1, d2, d3, d4] }
  | _ => none }
def RouteRefinesWrongFalsely : Prop := routeRefinesRow.holds Try.pinned (OpenSpec.ofChange routeRefinesWrong)

/- THE SECOND FORM. 'bulk': how many values and letters a reading holds, each counted each time it is reached (what is shared counts as often as it is met; a slice's spare places count too). A statement '..UptoSaid' is the law's where the arguments, and the package variables that the reading takes, are together of bulk at most 1048576: NARROWER than '..Said'. Prove '..Said' where nothing that the law and all that it calls make is longer than what came in: it says more and counts as full. Else prove '..UptoSaid'. A law counts once. -/
mutual
def uptoBulk {H : Type} : DataW H → Nat
  | .lit (.string bytes) => bytes.length + 1
  | .lit _ => 1
  | .nil => 1
  | .ptr d => uptoBulk d + 1
  | .slice elems spare => uptoBulkAll elems + uptoBulkAll spare + 1
  | .agg parts => uptoBulkAll parts + 1
  | .iface _ d => uptoBulk d + 1
  | .map entries => uptoBulkEntries entries + 1
  | .held _ => 1
def uptoBulkAll {H : Type} : List (DataW H) → Nat
  | [] => 0
  | d :: r => uptoBulk d + uptoBulkAll r
def uptoBulkEntries {H : Type} : List (Lit × DataW H) → Nat
  | [] => 0
  | x :: r => uptoBulkEntry x + uptoBulkEntries r
def uptoBulkEntry {H : Type} : Lit × DataW H → Nat
  | (.string bytes, d) => bytes.length + uptoBulk d + 1
  | (_, d) => uptoBulk d + 1
 end
def uptoSmall : (H : Type) → List (DataW H) → Bool := fun _ ds => decide (uptoBulkAll ds ≤ 1048576)
def OpenSpec.upto (s : _root_.Go.ChangeSpec) : _root_.Go.OpenSpec := { _root_.Go.OpenSpec.ofChange s with cond := some uptoSmall }

/-- 'underpasslaw08.RouteTells', WHERE WHAT IT READS IS OF BULK AT MOST 1048576: true; the input reads as it did. -/
def routeTellsUptoRow : OpenClaim := { program := "ytimpellpfnmicaa", sum := "6aa8151b758651aafd5f6c84c3fd61090f2b060993037c1dbdd3ceb2231d20cc", func := "underpass/underpasslaw08.RouteTells", spec := "routeTells", unfollowed := true, recurses := true, plainKeys := false, apart := false, narrowed := true }
def RouteTellsUptoSaid : Prop := routeTellsUptoRow.holds Try.pinned (OpenSpec.upto routeTellsSpec)

/-- 'underpasslaw08.RouteLongest', WHERE WHAT IT READS IS OF BULK AT MOST 1048576: true; the input reads as it did. -/
def routeLongestUptoRow : OpenClaim := { program := "ytimpellpfnmicaa", sum := "6aa8151b758651aafd5f6c84c3fd61090f2b060993037c1dbdd3ceb2231d20cc", func := "underpass/underpasslaw08.RouteLongest", spec := "routeLongest", unfollowed := true, recurses := true, plainKeys := false, apart := false, narrowed := true }
def RouteLongestUptoSaid : Prop := routeLongestUptoRow.holds Try.pinned (OpenSpec.upto routeLongestSpec)

/-- 'underpasslaw08.RouteOrder', WHERE WHAT IT READS IS OF BULK AT MOST 1048576: true; the input reads as it did. -/
def routeOrderUptoRow : OpenClaim := { program := "ytimpellpfnmicaa", sum := "6aa8151b758651aafd5f6c84c3fd61090f2b060993037c1dbdd3ceb2231d20cc", func := "underpass/underpasslaw08.RouteOrder", spec := "routeOrder", unfollowed := true, recurses := true, plainKeys := false, apart := false, narrowed := true }
def RouteOrderUptoSaid : Prop := routeOrderUptoRow.holds Try.pinned (OpenSpec.upto routeOrderSpec)

/-- 'underpasslaw08.RouteCuts', WHERE WHAT IT READS IS OF BULK AT MOST 1048576: true; the input reads as it did. -/
def routeCutsUptoRow : OpenClaim := { program := "ytimpellpfnmicaa", sum := "6aa8151b758651aafd5f6c84c3fd61090f2b060993037c1dbdd3ceb2231d20cc", func := "underpass/underpasslaw08.RouteCuts", spec := "routeCuts", unfollowed := true, recurses := true, plainKeys := false, apart := false, narrowed := true }
def RouteCutsUptoSaid : Prop := routeCutsUptoRow.holds Try.pinned (OpenSpec.upto routeCutsSpec)

/-- 'underpasslaw08.RouteGoes', WHERE WHAT IT READS IS OF BULK AT MOST 1048576: true; the input reads as it did. -/
def routeGoesUptoRow : OpenClaim := { program := "ytimpellpfnmicaa", sum := "6aa8151b758651aafd5f6c84c3fd61090f2b060993037c1dbdd3ceb2231d20cc", func := "underpass/underpasslaw08.RouteGoes", spec := "routeGoes", unfollowed := true, recurses := true, plainKeys := false, apart := false, narrowed := true }
def RouteGoesUptoSaid : Prop := routeGoesUptoRow.holds Try.pinned (OpenSpec.upto routeGoesSpec)

/-- 'underpasslaw08.RouteRefines', WHERE WHAT IT READS IS OF BULK AT MOST 1048576: true; the input reads as it did. -/
def routeRefinesUptoRow : OpenClaim := { program := "ytimpellpfnmicaa", sum := "6aa8151b758651aafd5f6c84c3fd61090f2b060993037c1dbdd3ceb2231d20cc", func := "underpass/underpasslaw08.RouteRefines", spec := "routeRefines", unfollowed := true, recurses := true, plainKeys := false, apart := false, narrowed := true }
def RouteRefinesUptoSaid : Prop := routeRefinesUptoRow.holds Try.pinned (OpenSpec.upto routeRefinesSpec)

end Rows
end Go.Proofs.Ytimpellpfnmicaa
