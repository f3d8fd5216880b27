/-
  No cell of these rows narrows 'for every input' (looked for: loops, veiled, ifaces, maps, wideKeys, modest, calm, conditions, laid).
  DERIVED. THE GIVEN ROWS OF THIS SEAT. 4 by the template 'for every input the law returns true; each argument reads behind the call as it read before'; 0 by the template 'total and deterministic' (their statements: YtdmogppkambgaaaTotals.lean).
  GIVEN WITH THE SEED: the statements are not yours to turn. If you find one false, say at which input.
  Laid BY PROGRAM, IN A SANDBOX (cutbox-rows.mjs): the forced cells as the released guide's own fill.sh prints them over the translation ff3b9e6abb8acc49… (all of the seat's roots in one cut). By AI agents, Wed Nov 11 2026. No macro, syntax, notation, axiom, sorry.
-/
import Derived.Test.YtdmogppkambgaaaChecked
import GoSem.Claim
import GoSem.ClaimJoined
import GoSem.ClaimMapViews
import Derived.JoinedTies
import Derived.KernelRfl
namespace Go.Proofs.Ytdmogppkambgaaa
/- THE CELL 'sum', in the pinned program and in every row, IS THE sha256 OF THE DUMP (.gsa) THAT YtdmogppkambgaaaProg.lean LOADS. Nothing in Lean hashes anything: it is a label: what it is worth is what the hold of that sum in a sandbox is worth. -/
noncomputable def Try.pinned : Pinned := { name := "ytdmogppkambgaaa", sum := "ff3b9e6abb8acc4936896b22d0893f1b4eab901f6535ca4b8c3c2801bb7d14e8", checked := Try.checked }
namespace Rows
def none {H : Type} : Left H := { results := [], args := [] }

/-- 'underpasslaw11.VxlanBack': WHATEVER THE INPUT: true; the input reads as it did. -/
def vxlanBackSpec : ChangeSpec := { name := "vxlanBack", fn := fun _ => fun
  | [d1, d2] => { results := [.lit (.bool true)], args := [d1, d2] }
  | _ => none }
def vxlanBackRow : OpenClaim := { program := "ytdmogppkambgaaa", sum := "ff3b9e6abb8acc4936896b22d0893f1b4eab901f6535ca4b8c3c2801bb7d14e8", func := "underpass/underpasslaw11.VxlanBack", spec := "vxlanBack", inPlace := ["internal/reflectlite.TypeOf"], unfollowed := true, recurses := true, apart := false }
def VxlanBackSaid : Prop := vxlanBackRow.holds Try.pinned (OpenSpec.ofChange vxlanBackSpec)

/-- ITS FALSE NEIGHBOUR: 'it returns false'. Refute it at one input. -/
def vxlanBackWrong : ChangeSpec := { name := "vxlanBack", fn := fun _ => fun
  | [d1, d2] => { results := [.lit (.bool false)], args := [d1, d2] }
  | _ => none }
def VxlanBackWrongFalsely : Prop := vxlanBackRow.holds Try.pinned (OpenSpec.ofChange vxlanBackWrong)

/-- 'underpasslaw11.VxlanAgain': WHATEVER THE INPUT: true; the input reads as it did. -/
def vxlanAgainSpec : ChangeSpec := { name := "vxlanAgain", fn := fun _ => fun
  | [d1, d2, d3, d4] => { results := [.lit (.bool true)], args := [d1, d2, d3, d4] }
  | _ => none }
def vxlanAgainRow : OpenClaim := { program := "ytdmogppkambgaaa", sum := "ff3b9e6abb8acc4936896b22d0893f1b4eab901f6535ca4b8c3c2801bb7d14e8", func := "underpass/underpasslaw11.VxlanAgain", spec := "vxlanAgain", inPlace := ["internal/reflectlite.TypeOf"], unfollowed := true, recurses := true, apart := false }
def VxlanAgainSaid : Prop := vxlanAgainRow.holds Try.pinned (OpenSpec.ofChange vxlanAgainSpec)

/-- ITS FALSE NEIGHBOUR: 'it returns false'. Refute it at one input. -/
def vxlanAgainWrong : ChangeSpec := { name := "vxlanAgain", fn := fun _ => fun
  | [d1, d2, d3, d4] => { results := [.lit (.bool false)], args := [d1, d2, d3, d4] }
  | _ => none }
def VxlanAgainWrongFalsely : Prop := vxlanAgainRow.holds Try.pinned (OpenSpec.ofChange vxlanAgainWrong)

/-- 'underpasslaw11.VxlanOwn': WHATEVER THE INPUT: true; the input reads as it did. -/
def vxlanOwnSpec : ChangeSpec := { name := "vxlanOwn", fn := fun _ => fun
  | [d1, d2] => { results := [.lit (.bool true)], args := [d1, d2] }
  | _ => none }
def vxlanOwnRow : OpenClaim := { program := "ytdmogppkambgaaa", sum := "ff3b9e6abb8acc4936896b22d0893f1b4eab901f6535ca4b8c3c2801bb7d14e8", func := "underpass/underpasslaw11.VxlanOwn", spec := "vxlanOwn", inPlace := ["internal/reflectlite.TypeOf"], unfollowed := true, recurses := true, apart := false }
def VxlanOwnSaid : Prop := vxlanOwnRow.holds Try.pinned (OpenSpec.ofChange vxlanOwnSpec)

/-- ITS FALSE NEIGHBOUR: 'it returns false'. Refute it at one input. -/
def vxlanOwnWrong : ChangeSpec := { name := "vxlanOwn", fn := fun _ => fun
  | [d1, d2] => { results := [.lit (.bool false)], args := [d1, d2] }
  | _ => none }
def VxlanOwnWrongFalsely : Prop := vxlanOwnRow.holds Try.pinned (OpenSpec.ofChange vxlanOwnWrong)

/-- 'underpasslaw11.VxlanCuts': WHATEVER THE INPUT: true; the input reads as it did. -/
def vxlanCutsSpec : ChangeSpec := { name := "vxlanCuts", fn := fun _ => fun
  | [d1, d2, d3] => { results := [.lit (.bool true)], args := [d1, d2, d3] }
  | _ => none }
def vxlanCutsRow : OpenClaim := { program := "ytdmogppkambgaaa", sum := "ff3b9e6abb8acc4936896b22d0893f1b4eab901f6535ca4b8c3c2801bb7d14e8", func := "underpass/underpasslaw11.VxlanCuts", spec := "vxlanCuts", inPlace := ["internal/reflectlite.TypeOf"], unfollowed := true, recurses := true, apart := false }
def VxlanCutsSaid : Prop := vxlanCutsRow.holds Try.pinned (OpenSpec.ofChange vxlanCutsSpec)

/-- ITS FALSE NEIGHBOUR: 'it returns false'. Refute it at one input. -/
def vxlanCutsWrong : ChangeSpec := { name := "vxlanCuts", fn := fun _ => fun
  | [d1, d2, d3] => { results := [.lit (.bool false)], args := [d1, d2, d3] }
  | _ => none }
def VxlanCutsWrongFalsely : Prop := vxlanCutsRow.holds Try.pinned (OpenSpec.ofChange vxlanCutsWrong)

/- THE SECOND FORM. 'bulk': how many values and letters a reading holds, each counted each time it is reached (what is shared counts as often as it is met; a slice's spare places count too). A statement '..UptoSaid' is the law's where the arguments, and the package variables that the reading takes, are together of bulk at most 1048576: NARROWER than '..Said'. Prove '..Said' where nothing that the law and all that it calls make is longer than what came in: it says more and counts as full. Else prove '..UptoSaid'. A law counts once. -/
mutual
def uptoBulk {H : Type} : DataW H → Nat
  | .lit (.string bytes) => bytes.length + 1
  | .lit _ => 1
  | .nil => 1
  | .ptr d => uptoBulk d + 1
  | .slice elems spare => uptoBulkAll elems + uptoBulkAll spare + 1
  | .agg parts => uptoBulkAll parts + 1
  | .iface _ d => uptoBulk d + 1
  | .map entries => uptoBulkEntries entries + 1
  | .held _ => 1
def uptoBulkAll {H : Type} : List (DataW H) → Nat
  | [] => 0
  | d :: r => uptoBulk d + uptoBulkAll r
def uptoBulkEntries {H : Type} : List (Lit × DataW H) → Nat
  | [] => 0
  | x :: r => uptoBulkEntry x + uptoBulkEntries r
def uptoBulkEntry {H : Type} : Lit × DataW H → Nat
  | (.string bytes, d) => bytes.length + uptoBulk d + 1
  | (_, d) => uptoBulk d + 1
 end
def uptoSmall : (H : Type) → List (DataW H) → Bool := fun _ ds => decide (uptoBulkAll ds ≤ 1048576)
def OpenSpec.upto (s : _root_.Go.ChangeSpec) : _root_.Go.OpenSpec := { _root_.Go.OpenSpec.ofChange s with cond := some uptoSmall }

/-- 'underpasslaw11.VxlanBack', WHERE WHAT IT READS IS OF BULK AT MOST 1048576: true; the input reads as it did. -/
def vxlanBackUptoRow : OpenClaim := { program := "ytdmogppkambgaaa", sum := "ff3b9e6abb8acc4936896b22d0893f1b4eab901f6535ca4b8c3c2801bb7d14e8", func := "underpass/underpasslaw11.VxlanBack", spec := "vxlanBack", inPlace := ["internal/reflectlite.TypeOf"], unfollowed := true, recurses := true, apart := false, narrowed := true }
def VxlanBackUptoSaid : Prop := vxlanBackUptoRow.holds Try.pinned (OpenSpec.upto vxlanBackSpec)

/-- 'underpasslaw11.VxlanAgain', WHERE WHAT IT READS IS OF BULK AT MOST 1048576: true; the input reads as it did. -/
def vxlanAgainUptoRow : OpenClaim := { program := "ytdmogppkambgaaa", sum := "ff3b9e6abb8acc4936896b22d0893f1b4eab901f6535ca4b8c3c2801bb7d14e8", func := "underpass/underpasslaw11.VxlanAgain", spec := "vxlanAgain", inPlace := ["internal/reflectlite.TypeOf"], unfollowed := true, recurses := true, apart := false, narrowed := true }
def VxlanAgainUptoSaid : Prop := vxlanAgainUptoRow.holds Try.pinned (OpenSpec.upto vxlanAgainSpec)

/-- 'underpasslaw11.VxlanOwn', WHERE WHAT IT READS IS OF BULK AT MOST 1048576: true; the input reads as it did. -/
def vxlanOwnUptoRow : OpenClaim := { program := "ytdmogppkambgaaa", sum := "ff3b9e6abb8acc4936896b22d0893f1b4eab901f6535ca4b8c3c2801bb7d14e8", func := "underpass/underpasslaw11.VxlanOwn", spec := "vxlanOwn", inPlace := ["internal/reflectlite.TypeOf"], unfollowed := true, recurses := true, apart := false, narrowed := true }
def VxlanOwnUptoSaid : Prop := vxlanOwnUptoRow.holds Try.pinned (OpenSpec.upto vxlanOwnSpec)

/-- 'underpasslaw11.VxlanCuts', WHERE WHAT IT READS IS OF BULK AT MOST 1048576: true; the input reads as it did. -/
def vxlanCutsUptoRow : OpenClaim := { program := "ytdmogppkambgaaa", sum := "ff3b9e6abb8acc4936896b22d0893f1b4eab901f6535ca4b8c3c2801bb7d14e8", func := "underpass/underpasslaw11.VxlanCuts", spec := "vxlanCuts", inPlace := ["internal/reflectlite.TypeOf"], unfollowed := true, recurses := true, apart := false, narrowed := true }
def VxlanCutsUptoSaid : Prop := vxlanCutsUptoRow.holds Try.pinned (OpenSpec.upto vxlanCutsSpec)

end Rows
end Go.Proofs.Ytdmogppkambgaaa
