/-
  No cell of these rows narrows 'for every input' (looked for: loops, veiled, ifaces, maps, wideKeys, modest, calm, conditions, laid).
  DERIVED. THE GIVEN ROWS OF THIS SEAT. 8 by the template 'for every input the law returns true; each argument reads behind the call as it read before'; 0 by the template 'total and deterministic' (their statements: YtnjohgfhagoppaaTotals.lean).
  GIVEN WITH THE SEED: the statements are not yours to turn. If you find one false, say at which input.
  Laid BY PROGRAM, IN A SANDBOX (cutbox-rows.mjs): the forced cells as the released guide's own fill.sh prints them over the translation 2db02ed4712c5de8… (all of the seat's roots in one cut). By AI agents, Wed Nov 11 2026. No macro, syntax, notation, axiom, sorry.
-/
import Derived.Test.YtnjohgfhagoppaaChecked
import GoSem.Claim
import GoSem.ClaimJoined
import GoSem.ClaimMapViews
import Derived.JoinedTies
import Derived.KernelRfl
namespace Go.Proofs.Ytnjohgfhagoppaa
/- THE CELL 'sum', in the pinned program and in every row, IS THE sha256 OF THE DUMP (.gsa) THAT YtnjohgfhagoppaaProg.lean LOADS. Nothing in Lean hashes anything: it is a label: what it is worth is what the hold of that sum in a sandbox is worth. -/
noncomputable def Try.pinned : Pinned := { name := "ytnjohgfhagoppaa", sum := "2db02ed4712c5de831ec3e864eadf2206eb2f7db0e23719d6f98ad11d3236d67", checked := Try.checked }
namespace Rows
def none {H : Type} : Left H := { results := [], args := [] }

/-- 'underpasslaw11.VxlanBack': WHATEVER THE INPUT: true; the input reads as it did. -/
def vxlanBackSpec : ChangeSpec := { name := "vxlanBack", fn := fun _ => fun
  | [d1, d2] => { results := [.lit (.bool true)], args := [d1, d2] }
  | _ => none }
def vxlanBackRow : OpenClaim := { program := "ytnjohgfhagoppaa", sum := "2db02ed4712c5de831ec3e864eadf2206eb2f7db0e23719d6f98ad11d3236d67", func := "underpass/underpasslaw11.VxlanBack", spec := "vxlanBack", inPlace := ["internal/reflectlite.TypeOf"], unfollowed := true, recurses := true, apart := false }
def VxlanBackSaid : Prop := vxlanBackRow.holds Try.pinned (OpenSpec.ofChange vxlanBackSpec)

/-- ITS FALSE NEIGHBOUR: 'it returns false'. Refute it at one input. -/
def vxlanBackWrong : ChangeSpec := { name := "vxlanBack", fn := fun _ => fun
  | [d1, d2] => { results := [.lit (.bool false)], args := [d1, d2] }
  | _ => none }
def VxlanBackWrongFalsely : Prop := vxlanBackRow.holds Try.pinned (OpenSpec.ofChange vxlanBackWrong)

/-- 'underpasslaw11.VxlanAgain': WHATEVER THE INPUT: true; the input reads as it did. -/
def vxlanAgainSpec : ChangeSpec := { name := "vxlanAgain", fn := fun _ => fun
  | [d1, d2, d3, d4] => { results := [.lit (.bool true)], args := [d1, d2, d3, d4] }
  | _ => none }
def vxlanAgainRow : OpenClaim := { program := "ytnjohgfhagoppaa", sum := "2db02ed4712c5de831ec3e864eadf2206eb2f7db0e23719d6f98ad11d3236d67", func := "underpass/underpasslaw11.VxlanAgain", spec := "vxlanAgain", inPlace := ["internal/reflectlite.TypeOf"], unfollowed := true, recurses := true, apart := false }
def VxlanAgainSaid : Prop := vxlanAgainRow.holds Try.pinned (OpenSpec.ofChange vxlanAgainSpec)

/-- ITS FALSE NEIGHBOUR: 'it returns false'. Refute it at one input. -/
def vxlanAgainWrong : ChangeSpec := { name := "vxlanAgain", fn := fun _ => fun
  | [d1, d2, d3, d4] => { results := [.lit (.bool false)], args := [d1, d2, d3, d4] }
  | _ => none }
def VxlanAgainWrongFalsely : Prop := vxlanAgainRow.holds Try.pinned (OpenSpec.ofChange vxlanAgainWrong)

/-- 'underpasslaw11.VxlanOwn': WHATEVER THE INPUT: true; the input reads as it did. -/
def vxlanOwnSpec : ChangeSpec := { name := "vxlanOwn", fn := fun _ => fun
  | [d1, d2] => { results := [.lit (.bool true)], args := [d1, d2] }
  | _ => none }
def vxlanOwnRow : OpenClaim := { program := "ytnjohgfhagoppaa", sum := "2db02ed4712c5de831ec3e864eadf2206eb2f7db0e23719d6f98ad11d3236d67", func := "underpass/underpasslaw11.VxlanOwn", spec := "vxlanOwn", inPlace := ["internal/reflectlite.TypeOf"], unfollowed := true, recurses := true, apart := false }
def VxlanOwnSaid : Prop := vxlanOwnRow.holds Try.pinned (OpenSpec.ofChange vxlanOwnSpec)

/-- ITS FALSE NEIGHBOUR: 'it returns false'. Refute it at one input. -/
def vxlanOwnWrong : ChangeSpec := { name := "vxlanOwn", fn := fun _ => fun
  | [d1, d2] => { results := [.lit (.bool false)], args := [d1, d2] }
  | _ => none }
def VxlanOwnWrongFalsely : Prop := vxlanOwnRow.holds Try.pinned (OpenSpec.ofChange vxlanOwnWrong)

/-- 'underpasslaw11.VxlanCuts': WHATEVER THE INPUT: true; the input reads as it did. -/
def vxlanCutsSpec : ChangeSpec := { name := "vxlanCuts", fn := fun _ => fun
  | [d1, d2, d3] => { results := [.lit (.bool true)], args := [d1, d2, d3] }
  | _ => none }
def vxlanCutsRow : OpenClaim := { program := "ytnjohgfhagoppaa", sum := "2db02ed4712c5de831ec3e864eadf2206eb2f7db0e23719d6f98ad11d3236d67", func := "underpass/underpasslaw11.VxlanCuts", spec := "vxlanCuts", inPlace := ["internal/reflectlite.TypeOf"], unfollowed := true, recurses := true, apart := false }
def VxlanCutsSaid : Prop := vxlanCutsRow.holds Try.pinned (OpenSpec.ofChange vxlanCutsSpec)

/-- ITS FALSE NEIGHBOUR: 'it returns false'. Refute it at one input. -/
def vxlanCutsWrong : ChangeSpec := { name := "vxlanCuts", fn := fun _ => fun
  | [d1, d2, d3] => { results := [.lit (.bool false)], args := [d1, d2, d3] }
  | _ => none }
def VxlanCutsWrongFalsely : Prop := vxlanCutsRow.holds Try.pinned (OpenSpec.ofChange vxlanCutsWrong)

/-- 'underpasslaw12.GeneveBack': WHATEVER THE INPUT: true; the input reads as it did. -/
def geneveBackSpec : ChangeSpec := { name := "geneveBack", fn := fun _ => fun
  | [d1, d2, d3] => { results := [.lit (.bool true)], args := [d1, d2, d3] }
  | _ => none }
def geneveBackRow : OpenClaim := { program := "ytnjohgfhagoppaa", sum := "2db02ed4712c5de831ec3e864eadf2206eb2f7db0e23719d6f98ad11d3236d67", func := "underpass/underpasslaw12.GeneveBack", spec := "geneveBack", inPlace := ["internal/reflectlite.TypeOf"], unfollowed := true, recurses := true, apart := false }
def GeneveBackSaid : Prop := geneveBackRow.holds Try.pinned (OpenSpec.ofChange geneveBackSpec)

/-- ITS FALSE NEIGHBOUR: 'it returns false'. Refute it at one input. -/
def geneveBackWrong : ChangeSpec := { name := "geneveBack", fn := fun _ => fun
  | [d1, d2, d3] => { results := [.lit (.bool false)], args := [d1, d2, d3] }
  | _ => none }
def GeneveBackWrongFalsely : Prop := geneveBackRow.holds Try.pinned (OpenSpec.ofChange geneveBackWrong)

/-- 'underpasslaw12.GeneveAgain': WHATEVER THE INPUT: true; the input reads as it did. -/
def geneveAgainSpec : ChangeSpec := { name := "geneveAgain", fn := fun _ => fun
  | [d] => { results := [.lit (.bool true)], args := [d] }
  | _ => none }
def geneveAgainRow : OpenClaim := { program := "ytnjohgfhagoppaa", sum := "2db02ed4712c5de831ec3e864eadf2206eb2f7db0e23719d6f98ad11d3236d67", func := "underpass/underpasslaw12.GeneveAgain", spec := "geneveAgain", inPlace := ["internal/reflectlite.TypeOf"], unfollowed := true, recurses := true, apart := false }
def GeneveAgainSaid : Prop := geneveAgainRow.holds Try.pinned (OpenSpec.ofChange geneveAgainSpec)

/-- ITS FALSE NEIGHBOUR: 'it returns false'. Refute it at one input. -/
def geneveAgainWrong : ChangeSpec := { name := "geneveAgain", fn := fun _ => fun
  | [d] => { results := [.lit (.bool false)], args := [d] }
  | _ => none }
def GeneveAgainWrongFalsely : Prop := geneveAgainRow.holds Try.pinned (OpenSpec.ofChange geneveAgainWrong)

/-- 'underpasslaw12.GeneveCuts': WHATEVER THE INPUT: true; the input reads as it did. -/
def geneveCutsSpec : ChangeSpec := { name := "geneveCuts", fn := fun _ => fun
  | [d1, d2, d3, d4] => { results := [.lit (.bool true)], args := [d1, d2, d3, d4] }
  | _ => none }
def geneveCutsRow : OpenClaim := { program := "ytnjohgfhagoppaa", sum := "2db02ed4712c5de831ec3e864eadf2206eb2f7db0e23719d6f98ad11d3236d67", func := "underpass/underpasslaw12.GeneveCuts", spec := "geneveCuts", inPlace := ["internal/reflectlite.TypeOf"], unfollowed := true, recurses := true, apart := false }
def GeneveCutsSaid : Prop := geneveCutsRow.holds Try.pinned (OpenSpec.ofChange geneveCutsSpec)

/-- ITS FALSE NEIGHBOUR: 'it returns false'. Refute it at one input. -/
def geneveCutsWrong : ChangeSpec := { name := "geneveCuts", fn := fun _ => fun
  | [d1, d2, d3, d4] => { results := [.lit (.bool false)], args := [d1, d2, d3, d4] }
  | _ => none }
def GeneveCutsWrongFalsely : Prop := geneveCutsRow.holds Try.pinned (OpenSpec.ofChange geneveCutsWrong)

/-- 'underpasslaw12.GeneveOwn': WHATEVER THE INPUT: true; the input reads as it did. -/
def geneveOwnSpec : ChangeSpec := { name := "geneveOwn", fn := fun _ => fun
  | [d1, d2, d3] => { results := [.lit (.bool true)], args := [d1, d2, d3] }
  | _ => none }
def geneveOwnRow : OpenClaim := { program := "ytnjohgfhagoppaa", sum := "2db02ed4712c5de831ec3e864eadf2206eb2f7db0e23719d6f98ad11d3236d67", func := "underpass/underpasslaw12.GeneveOwn", spec := "geneveOwn", inPlace := ["internal/reflectlite.TypeOf"], unfollowed := true, recurses := true, apart := false }
def GeneveOwnSaid : Prop := geneveOwnRow.holds Try.pinned (OpenSpec.ofChange geneveOwnSpec)

/-- ITS FALSE NEIGHBOUR: 'it returns false'. Refute it at one input. -/
def geneveOwnWrong : ChangeSpec := { name := "geneveOwn", fn := fun _ => fun
  | [d1, d2, d3] => { results := [.lit (.bool false)], args := [d1, d2, d3] }
  | _ => none }
def GeneveOwnWrongFalsely : Prop := geneveOwnRow.holds Try.pinned (OpenSpec.ofChange geneveOwnWrong)

/- THE SECOND FORM. 'bulk': how many values and letters a reading holds, each counted each time it is reached (what is shared counts as often as it is met; a slice's spare places count too). A statement '..UptoSaid' is the law's where the arguments, and the package variables that the reading takes, are together of bulk at most 1048576: NARROWER than '..Said'. Prove '..Said' where nothing that the law and all that it calls make is longer than what came in: it says more and counts as full. Else prove '..UptoSaid'. A law counts once. -/
mutual
def uptoBulk {H : Type} : DataW H → Nat
  | .lit (.string bytes) => bytes.length + 1
  | .lit _ => 1
  | .nil => 1
  | .ptr d => uptoBulk d + 1
  | .slice elems spare => uptoBulkAll elems + uptoBulkAll spare + 1
  | .agg parts => uptoBulkAll parts + 1
  | .iface _ d => uptoBulk d + 1
  | .map entries => uptoBulkEntries entries + 1
  | .held _ => 1
def uptoBulkAll {H : Type} : List (DataW H) → Nat
  | [] => 0
  | d :: r => uptoBulk d + uptoBulkAll r
def uptoBulkEntries {H : Type} : List (Lit × DataW H) → Nat
  | [] => 0
  | x :: r => uptoBulkEntry x + uptoBulkEntries r
def uptoBulkEntry {H : Type} : Lit × DataW H → Nat
  | (.string bytes, d) => bytes.length + uptoBulk d + 1
  | (_, d) => uptoBulk d + 1
 end
def uptoSmall : (H : Type) → List (DataW H) → Bool := fun _ ds => decide (uptoBulkAll ds ≤ 1048576)
def OpenSpec.upto (s : _root_.Go.ChangeSpec) : _root_.Go.OpenSpec := { _root_.Go.OpenSpec.ofChange s with cond := some uptoSmall }

/-- 'underpasslaw11.VxlanBack', WHERE WHAT IT READS IS OF BULK AT MOST 1048576: true; the input reads as it did. -/
def vxlanBackUptoRow : OpenClaim := { program := "ytnjohgfhagoppaa", sum := "2db02ed4712c5de831ec3e864eadf2206eb2f7db0e23719d6f98ad11d3236d67", func := "underpass/underpasslaw11.VxlanBack", spec := "vxlanBack", inPlace := ["internal/reflectlite.TypeOf"], unfollowed := true, recurses := true, apart := false, narrowed := true }
def VxlanBackUptoSaid : Prop := vxlanBackUptoRow.holds Try.pinned (OpenSpec.upto vxlanBackSpec)

/-- 'underpasslaw11.VxlanAgain', WHERE WHAT IT READS IS OF BULK AT MOST 1048576: true; the input reads as it did. -/
def vxlanAgainUptoRow : OpenClaim := { program := "ytnjohgfhagoppaa", sum := "2db02ed4712c5de831ec3e864eadf2206eb2f7db0e23719d6f98ad11d3236d67", func := "underpass/underpasslaw11.VxlanAgain", spec := "vxlanAgain", inPlace := ["internal/reflectlite.TypeOf"], unfollowed := true, recurses := true, apart := false, narrowed := true }
def VxlanAgainUptoSaid : Prop := vxlanAgainUptoRow.holds Try.pinned (OpenSpec.upto vxlanAgainSpec)

/-- 'underpasslaw11.VxlanOwn', WHERE WHAT IT READS IS OF BULK AT MOST 1048576: true; the input reads as it did. -/
def vxlanOwnUptoRow : OpenClaim := { program := "ytnjohgfhagoppaa", sum := "2db02ed4712c5de831ec3e864eadf2206eb2f7db0e23719d6f98ad11d3236d67", func := "underpass/underpasslaw11.VxlanOwn", spec := "vxlanOwn", inPlace := ["internal/reflectlite.TypeOf"], unfollowed := true, recurses := true, apart := false, narrowed := true }
def VxlanOwnUptoSaid : Prop := vxlanOwnUptoRow.holds Try.pinned (OpenSpec.upto vxlanOwnSpec)

/-- 'underpasslaw11.VxlanCuts', WHERE WHAT IT READS IS OF BULK AT MOST 1048576: true; the input reads as it did. -/
def vxlanCutsUptoRow : OpenClaim := { program := "ytnjohgfhagoppaa", sum := "2db02ed4712c5de831ec3e864eadf2206eb2f7db0e23719d6f98ad11d3236d67", func := "underpass/underpasslaw11.VxlanCuts", spec := "vxlanCuts", inPlace := ["internal/reflectlite.TypeOf"], unfollowed := true, recurses := true, apart := false, narrowed := true }
def VxlanCutsUptoSaid : Prop := vxlanCutsUptoRow.holds Try.pinned (OpenSpec.upto vxlanCutsSpec)

/-- 'underpasslaw12.GeneveBack', WHERE WHAT IT READS IS OF BULK AT MOST 1048576: true; the input reads as it did. -/
def geneveBackUptoRow : OpenClaim := { program := "ytnjohgfhagoppaa", sum := "2db02ed4712c5de831ec3e864eadf2206eb2f7db0e23719d6f98ad11d3236d67", func := "underpass/underpasslaw12.GeneveBack", spec := "geneveBack", inPlace := ["internal/reflectlite.TypeOf"], unfollowed := true, recurses := true, apart := false, narrowed := true }
def GeneveBackUptoSaid : Prop := geneveBackUptoRow.holds Try.pinned (OpenSpec.upto geneveBackSpec)

/-- 'underpasslaw12.GeneveAgain', WHERE WHAT IT READS IS OF BULK AT MOST 1048576: true; the input reads as it did. -/
def geneveAgainUptoRow : OpenClaim := { program := "ytnjohgfhagoppaa", sum := "2db02ed4712c5de831ec3e864eadf2206eb2f7db0e23719d6f98ad11d3236d67", func := "underpass/underpasslaw12.GeneveAgain", spec := "geneveAgain", inPlace := ["internal/reflectlite.TypeOf"], unfollowed := true, recurses := true, apart := false, narrowed := true }
def GeneveAgainUptoSaid : Prop := geneveAgainUptoRow.holds Try.pinned (OpenSpec.upto geneveAgainSpec)

/-- 'underpasslaw12.GeneveCuts', WHERE WHAT IT READS IS OF BULK AT MOST 1048576: true; the input reads as it did. -/
def geneveCutsUptoRow : OpenClaim := { program := "ytnjohgfhagoppaa", sum := "2db02ed4712c5de831ec3e864eadf2206eb2f7db0e23719d6f98ad11d3236d67", func := "underpass/underpasslaw12.GeneveCuts", spec := "geneveCuts", inPlace := ["internal/reflectlite.TypeOf"], unfollowed := true, recurses := true, apart := false, narrowed := true }
def GeneveCutsUptoSaid : Prop := geneveCutsUptoRow.holds Try.pinned (OpenSpec.upto geneveCutsSpec)

/-- 'underpasslaw12.GeneveOwn', WHERE WHAT IT READS IS OF BULK AT MOST 1048576: true; the input reads as it did. -/
def geneveOwnUptoRow : OpenClaim := { program := "ytnjohgfhagoppaa", sum := "2db02ed4712c5de831ec3e864eadf2206eb2f7db0e23719d6f98ad11d3236d67", func := "underpass/underpasslaw12.GeneveOwn", spec := "geneveOwn", inPlace := ["internal/reflectlite.TypeOf"], unfollowed := true, recurses := true, apart := false, narrowed := true }
def GeneveOwnUptoSaid : Prop := geneveOwnUptoRow.holds Try.pinned (OpenSpec.upto geneveOwnSpec)

end Rows
end Go.Proofs.Ytnjohgfhagoppaa
