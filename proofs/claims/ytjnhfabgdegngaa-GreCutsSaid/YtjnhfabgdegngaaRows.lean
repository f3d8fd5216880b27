/-
  No cell of these rows narrows 'for every input' (looked for: loops, veiled, ifaces, maps, wideKeys, modest, calm, conditions, laid).
  DERIVED. THE GIVEN ROWS OF THIS SEAT. 6 by the template 'for every input the law returns true; each argument reads behind the call as it read before'; 0 by the template 'total and deterministic' (their statements: YtjnhfabgdegngaaTotals.lean).
  GIVEN WITH THE SEED: the statements are not yours to turn. If you find one false, say at which input.
  Laid BY PROGRAM, IN A SANDBOX (cutbox-rows.mjs): the forced cells as the released guide's own fill.sh prints them over the translation f0d14be7d74439c8… (all of the seat's roots in one cut). By AI agents, Wed Nov 11 2026. No macro, syntax, notation, axiom, sorry.
-/
import Derived.Test.YtjnhfabgdegngaaChecked
import GoSem.Claim
import GoSem.ClaimJoined
import GoSem.ClaimMapViews
import Derived.JoinedTies
import Derived.KernelRfl
namespace Go.Proofs.Ytjnhfabgdegngaa
/- THE CELL 'sum', in the pinned program and in every row, IS THE sha256 OF THE DUMP (.gsa) THAT YtjnhfabgdegngaaProg.lean LOADS. Nothing in Lean hashes anything: it is a label: what it is worth is what the hold of that sum in a sandbox is worth. -/
noncomputable def Try.pinned : Pinned := { name := "ytjnhfabgdegngaa", sum := "f0d14be7d74439c8868d454359ca9199a46c89462c712ae1012e50050b48cffd", checked := Try.checked }
namespace Rows
def none {H : Type} : Left H := { results := [], args := [] }

/-- 'underpasslaw13.GreBack': WHATEVER THE INPUT: true; the input reads as it did. -/
def greBackSpec : ChangeSpec := { name := "greBack", fn := fun _ => fun
  | [d1, d2] => { results := [.lit (.bool true)], args := [d1, d2] }
  | _ => none }
def greBackRow : OpenClaim := { program := "ytjnhfabgdegngaa", sum := "f0d14be7d74439c8868d454359ca9199a46c89462c712ae1012e50050b48cffd", func := "underpass/underpasslaw13.GreBack", spec := "greBack", inPlace := ["internal/reflectlite.TypeOf"], unfollowed := true, recurses := true, apart := false }
def GreBackSaid : Prop := greBackRow.holds Try.pinned (OpenSpec.ofChange greBackSpec)

/-- ITS FALSE NEIGHBOUR: 'it returns false'. Refute it at one input. -/
def greBackWrong : ChangeSpec := { name := "greBack", fn := fun _ => fun
  | [d1, d2] => { results := [.lit (.bool false)], args := [d1, d2] }
  | _ => none }
def GreBackWrongFalsely : Prop := greBackRow.holds Try.pinned (OpenSpec.ofChange greBackWrong)

/-- 'underpasslaw13.GreSums': WHATEVER THE INPUT: true; the input reads as it did. -/
def greSumsSpec : ChangeSpec := { name := "greSums", fn := fun _ => fun
  | [d1, d2, d3, d4] => { results := [.lit (.bool true)], args := [d1, d2, d3, d4] }
  | _ => none }
def greSumsRow : OpenClaim := { program := "ytjnhfabgdegngaa", sum := "f0d14be7d74439c8868d454359ca9199a46c89462c712ae1012e50050b48cffd", func := "underpass/underpasslaw13.GreSums", spec := "greSums", inPlace := ["internal/reflectlite.TypeOf"], unfollowed := true, recurses := true, apart := false }
def GreSumsSaid : Prop := greSumsRow.holds Try.pinned (OpenSpec.ofChange greSumsSpec)

/-- ITS FALSE NEIGHBOUR: 'it returns false'. Refute it at one input. -/
def greSumsWrong : ChangeSpec := { name := "greSums", fn := fun _ => fun
  | [d1, d2, d3, d4] => { results := [.lit (.bool false)], args := [d1, d2, d3, d4] }
  | _ => none }
def GreSumsWrongFalsely : Prop := greSumsRow.holds Try.pinned (OpenSpec.ofChange greSumsWrong)

/-- 'underpasslaw13.GreAgain': WHATEVER THE INPUT: true; the input reads as it did. -/
def greAgainSpec : ChangeSpec := { name := "greAgain", fn := fun _ => fun
  | [d] => { results := [.lit (.bool true)], args := [d] }
  | _ => none }
def greAgainRow : OpenClaim := { program := "ytjnhfabgdegngaa", sum := "f0d14be7d74439c8868d454359ca9199a46c89462c712ae1012e50050b48cffd", func := "underpass/underpasslaw13.GreAgain", spec := "greAgain", inPlace := ["internal/reflectlite.TypeOf"], unfollowed := true, recurses := true, apart := false }
def GreAgainSaid : Prop := greAgainRow.holds Try.pinned (OpenSpec.ofChange greAgainSpec)

/-- ITS FALSE NEIGHBOUR: 'it returns false'. Refute it at one input. -/
def greAgainWrong : ChangeSpec := { name := "greAgain", fn := fun _ => fun
  | [d] => { results := [.lit (.bool false)], args := [d] }
  | _ => none }
def GreAgainWrongFalsely : Prop := greAgainRow.holds Try.pinned (OpenSpec.ofChange greAgainWrong)

/-- 'underpasslaw13.GreOrder': WHATEVER THE INPUT: true; the input reads as it did. -/
def greOrderSpec : ChangeSpec := { name := "greOrder", fn := fun _ => fun
  | [d] => { results := [.lit (.bool true)], args := [d] }
  | _ => none }
def greOrderRow : OpenClaim := { program := "ytjnhfabgdegngaa", sum := "f0d14be7d74439c8868d454359ca9199a46c89462c712ae1012e50050b48cffd", func := "underpass/underpasslaw13.GreOrder", spec := "greOrder", inPlace := ["internal/reflectlite.TypeOf"], unfollowed := true, recurses := true, apart := false }
def GreOrderSaid : Prop := greOrderRow.holds Try.pinned (OpenSpec.ofChange greOrderSpec)

/-- ITS FALSE NEIGHBOUR: 'it returns false'. Refute it at one input. -/
def greOrderWrong : ChangeSpec := { name := "greOrder", fn := fun _ => fun
  | [d] => { results := [.lit (.bool false)], args := [d] }
  | _ => none }
def GreOrderWrongFalsely : Prop := greOrderRow.holds Try.pinned (OpenSpec.ofChange greOrderWrong)

/-- 'underpasslaw13.GreOnce': WHATEVER THE INPUT: true; the input reads as it did. -/
def greOnceSpec : ChangeSpec := { name := "greOnce", fn := fun _ => fun
  | [d] => { results := [.lit (.bool true)], args := [d] }
  | _ => none }
def greOnceRow : OpenClaim := { program := "ytjnhfabgdegngaa", sum := "f0d14be7d74439c8868d454359ca9199a46c89462c712ae1012e50050b48cffd", func := "underpass/underpasslaw13.GreOnce", spec := "greOnce", inPlace := ["internal/reflectlite.TypeOf"], unfollowed := true, recurses := true, apart := false }
def GreOnceSaid : Prop := greOnceRow.holds Try.pinned (OpenSpec.ofChange greOnceSpec)

/-- ITS FALSE NEIGHBOUR: 'it returns false'. Refute it at one input. -/
def greOnceWrong : ChangeSpec := { name := "greOnce", fn := fun _ => fun
  | [d] => { results := [.lit (.bool false)], args := [d] }
  | _ => none }
def GreOnceWrongFalsely : Prop := greOnceRow.holds Try.pinned (OpenSpec.ofChange greOnceWrong)

/-- 'underpasslaw13.GreCuts': WHATEVER THE INPUT: true; the input reads as it did. -/
def greCutsSpec : ChangeSpec := { name := "greCuts", fn := fun _ => fun
  | [d1, d2, d3] => { results := [.lit (.bool true)], args := [d1, d2, d3] }
  | _ => none }
def greCutsRow : OpenClaim := { program := "ytjnhfabgdegngaa", sum := "f0d14be7d74439c8868d454359ca9199a46c89462c712ae1012e50050b48cffd", func := "underpass/underpasslaw13.GreCuts", spec := "greCuts", inPlace := ["internal/reflectlite.TypeOf"], unfollowed := true, recurses := true, apart := false }
def GreCutsSaid : Prop := greCutsRow.holds Try.pinned (OpenSpec.ofChange greCutsSpec)

/-- ITS FALSE NEIGHBOUR: 'it returns false'. Refute it at one input. -/
def greCutsWrong : ChangeSpec := { name := "greCuts", fn := fun _ => fun
  | [d1, d2, d3] => { results := [.lit (.bool false)], args := [d1, d2, d3] }
  | _ => none }
def GreCutsWrongFalsely : Prop := greCutsRow.holds Try.pinned (OpenSpec.ofChange greCutsWrong)

/- THE SECOND FORM. 'bulk': how many values and letters a reading holds, each counted each time it is reached (what is shared counts as often as it is met; a slice's spare places count too). A statement '..UptoSaid' is the law's where the arguments, and the package variables that the reading takes, are together of bulk at most 1048576: NARROWER than '..Said'. Prove '..Said' where nothing that the law and all that it calls make is longer than what came in: it says more and counts as full. Else prove '..UptoSaid'. A law counts once. -/
mutual
def uptoBulk {H : Type} : DataW H → Nat
  | .lit (.string bytes) => bytes.length + 1
  | .lit _ => 1
  | .nil => 1
  | .ptr d => uptoBulk d + 1
  | .slice elems spare => uptoBulkAll elems + uptoBulkAll spare + 1
  | .agg parts => uptoBulkAll parts + 1
  | .iface _ d => uptoBulk d + 1
  | .map entries => uptoBulkEntries entries + 1
  | .held _ => 1
def uptoBulkAll {H : Type} : List (DataW H) → Nat
  | [] => 0
  | d :: r => uptoBulk d + uptoBulkAll r
def uptoBulkEntries {H : Type} : List (Lit × DataW H) → Nat
  | [] => 0
  | x :: r => uptoBulkEntry x + uptoBulkEntries r
def uptoBulkEntry {H : Type} : Lit × DataW H → Nat
  | (.string bytes, d) => bytes.length + uptoBulk d + 1
  | (_, d) => uptoBulk d + 1
 end
def uptoSmall : (H : Type) → List (DataW H) → Bool := fun _ ds => decide (uptoBulkAll ds ≤ 1048576)
def OpenSpec.upto (s : _root_.Go.ChangeSpec) : _root_.Go.OpenSpec := { _root_.Go.OpenSpec.ofChange s with cond := some uptoSmall }

/-- 'underpasslaw13.GreBack', WHERE WHAT IT READS IS OF BULK AT MOST 1048576: true; the input reads as it did. -/
def greBackUptoRow : OpenClaim := { program := "ytjnhfabgdegngaa", sum := "f0d14be7d74439c8868d454359ca9199a46c89462c712ae1012e50050b48cffd", func := "underpass/underpasslaw13.GreBack", spec := "greBack", inPlace := ["internal/reflectlite.TypeOf"], unfollowed := true, recurses := true, apart := false, narrowed := true }
def GreBackUptoSaid : Prop := greBackUptoRow.holds Try.pinned (OpenSpec.upto greBackSpec)

/-- 'underpasslaw13.GreSums', WHERE WHAT IT READS IS OF BULK AT MOST 1048576: true; the input reads as it did. -/
def greSumsUptoRow : OpenClaim := { program := "ytjnhfabgdegngaa", sum := "f0d14be7d74439c8868d454359ca9199a46c89462c712ae1012e50050b48cffd", func := "underpass/underpasslaw13.GreSums", spec := "greSums", inPlace := ["internal/reflectlite.TypeOf"], unfollowed := true, recurses := true, apart := false, narrowed := true }
def GreSumsUptoSaid : Prop := greSumsUptoRow.holds Try.pinned (OpenSpec.upto greSumsSpec)

/-- 'underpasslaw13.GreAgain', WHERE WHAT IT READS IS OF BULK AT MOST 1048576: true; the input reads as it did. -/
def greAgainUptoRow : OpenClaim := { program := "ytjnhfabgdegngaa", sum := "f0d14be7d74439c8868d454359ca9199a46c89462c712ae1012e50050b48cffd", func := "underpass/underpasslaw13.GreAgain", spec := "greAgain", inPlace := ["internal/reflectlite.TypeOf"], unfollowed := true, recurses := true, apart := false, narrowed := true }
def GreAgainUptoSaid : Prop := greAgainUptoRow.holds Try.pinned (OpenSpec.upto greAgainSpec)

/-- 'underpasslaw13.GreOrder', WHERE WHAT IT READS IS OF BULK AT MOST 1048576: true; the input reads as it did. -/
def greOrderUptoRow : OpenClaim := { program := "ytjnhfabgdegngaa", sum := "f0d14be7d74439c8868d454359ca9199a46c89462c712ae1012e50050b48cffd", func := "underpass/underpasslaw13.GreOrder", spec := "greOrder", inPlace := ["internal/reflectlite.TypeOf"], unfollowed := true, recurses := true, apart := false, narrowed := true }
def GreOrderUptoSaid : Prop := greOrderUptoRow.holds Try.pinned (OpenSpec.upto greOrderSpec)

/-- 'underpasslaw13.GreOnce', WHERE WHAT IT READS IS OF BULK AT MOST 1048576: true; the input reads as it did. -/
def greOnceUptoRow : OpenClaim := { program := "ytjnhfabgdegngaa", sum := "f0d14be7d74439c8868d454359ca9199a46c89462c712ae1012e50050b48cffd", func := "underpass/underpasslaw13.GreOnce", spec := "greOnce", inPlace := ["internal/reflectlite.TypeOf"], unfollowed := true, recurses := true, apart := false, narrowed := true }
def GreOnceUptoSaid : Prop := greOnceUptoRow.holds Try.pinned (OpenSpec.upto greOnceSpec)

/-- 'underpasslaw13.GreCuts', WHERE WHAT IT READS IS OF BULK AT MOST 1048576: true; the input reads as it did. -/
def greCutsUptoRow : OpenClaim := { program := "ytjnhfabgdegngaa", sum := "f0d14be7d74439c8868d454359ca9199a46c89462c712ae1012e50050b48cffd", func := "underpass/underpasslaw13.GreCuts", spec := "greCuts", inPlace := ["internal/reflectlite.TypeOf"], unfollowed := true, recurses := true, apart := false, narrowed := true }
def GreCutsUptoSaid : Prop := greCutsUptoRow.holds Try.pinned (OpenSpec.upto greCutsSpec)

end Rows
end Go.Proofs.Ytjnhfabgdegngaa
