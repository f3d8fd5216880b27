/-
  No cell of these rows narrows 'for every input' (looked for: loops, veiled, ifaces, maps, wideKeys, modest, calm, conditions, laid).
  DERIVED. THE GIVEN ROWS OF THIS SEAT. 3 by the template 'for every input the law returns true; each argument reads behind the call as it read before'; 0 by the template 'total and deterministic' (their statements: YtlhanaglhkmcfaaTotals.lean).
  GIVEN WITH THE SEED: the statements are not yours to turn. If you find one false, say at which input.
  Laid BY PROGRAM, IN A SANDBOX (cutbox-rows.mjs): the forced cells as the released guide's own fill.sh prints them over the translation a4bf01305c53c7d6… (all of the seat's roots in one cut). By AI agents, Wed Nov 11 2026. No macro, syntax, notation, axiom, sorry.
-/
import Derived.Test.YtlhanaglhkmcfaaChecked
import GoSem.Claim
import GoSem.ClaimJoined
import GoSem.ClaimMapViews
import Derived.JoinedTies
import Derived.KernelRfl
namespace Go.Proofs.Ytlhanaglhkmcfaa
/- THE CELL 'sum', in the pinned program and in every row, IS THE sha256 OF THE DUMP (.gsa) THAT YtlhanaglhkmcfaaProg.lean LOADS. Nothing in Lean hashes anything: it is a label: what it is worth is what the hold of that sum in a sandbox is worth. -/
noncomputable def Try.pinned : Pinned := { name := "ytlhanaglhkmcfaa", sum := "a4bf01305c53c7d602d23bf5e708c154a3e90bde616eaacb69ffd3508fac9662", checked := Try.checked }
namespace Rows
def none {H : Type} : Left H := { results := [], args := [] }

/-- 'underpasslaw07.IcmpUnlike': WHATEVER THE INPUT: true; the input reads as it did. -/
def icmpUnlikeSpec : ChangeSpec := { name := "icmpUnlike", fn := fun _ => fun
  | [d1, d2] => { results := [.lit (.bool true)], args := [d1, d2] }
  | _ => none }
def icmpUnlikeRow : OpenClaim := { program := "ytlhanaglhkmcfaa", sum := "a4bf01305c53c7d602d23bf5e708c154a3e90bde616eaacb69ffd3508fac9662", func := "underpass/underpasslaw07.IcmpUnlike", spec := "icmpUnlike", unfollowed := true, recurses := true, apart := false }
def IcmpUnlikeSaid : Prop := icmpUnlikeRow.holds Try.pinned (OpenSpec.ofChange icmpUnlikeSpec)

/-- ITS FALSE NEIGHBOUR: 'it returns false'. Refute it at one input. -/
def icmpUnlikeWrong : ChangeSpec := { name := "icmpUnlike", fn := fun _ => fun
  | [d1, d2] => { results := [.lit (.bool false)], args := [d1, d2] }
  | _ => none }
def IcmpUnlikeWrongFalsely : Prop := icmpUnlikeRow.holds Try.pinned (OpenSpec.ofChange icmpUnlikeWrong)

/-- 'underpasslaw07.IcmpReplies': WHATEVER THE INPUT: true; the input reads as it did. -/
def icmpRepliesSpec : ChangeSpec := { name := "icmpReplies", fn := fun _ => fun
  | [d] => { results := [.lit (.bool true)], args := [d] }
  | _ => none }
def icmpRepliesRow : OpenClaim := { program := "ytlhanaglhkmcfaa", sum := "a4bf01305c53c7d602d23bf5e708c154a3e90bde616eaacb69ffd3508fac9662", func := "underpass/underpasslaw07.IcmpReplies", spec := "icmpReplies", unfollowed := true, recurses := true, apart := false }
def IcmpRepliesSaid : Prop := icmpRepliesRow.holds Try.pinned (OpenSpec.ofChange icmpRepliesSpec)

/-- ITS FALSE NEIGHBOUR: 'it returns false'. Refute it at one input. -/
def icmpRepliesWrong : ChangeSpec := { name := "icmpReplies", fn := fun _ => fun
  | [d] => { results := [.lit (.bool false)], args := [d] }
  | _ => none }
def IcmpRepliesWrongFalsely : Prop := icmpRepliesRow.holds Try.pinned (OpenSpec.ofChange icmpRepliesWrong)

/-- 'underpasslaw07.IcmpSizes': WHATEVER THE INPUT: true; the input reads as it did. -/
def icmpSizesSpec : ChangeSpec := { name := "icmpSizes", fn := fun _ => fun
  | [d1, d2, d3, d4] => { results := [.lit (.bool true)], args := [d1, d2, d3, d4] }
  | _ => none }
def icmpSizesRow : OpenClaim := { program := "ytlhanaglhkmcfaa", sum := "a4bf01305c53c7d602d23bf5e708c154a3e90bde616eaacb69ffd3508fac9662", func := "underpass/underpasslaw07.IcmpSizes", spec := "icmpSizes", unfollowed := true, recurses := true, apart := false }
def IcmpSizesSaid : Prop := icmpSizesRow.holds Try.pinned (OpenSpec.ofChange icmpSizesSpec)

/-- ITS FALSE NEIGHBOUR: 'it returns false'. Refute it at one input. -/
def icmpSizesWrong : ChangeSpec := { name := "icmpSizes", fn := fun _ => fun
  | [d1, d2, d3, d4] => { results := [.lit (.bool false)], args := [d1, d2, d3, d4] }
  | _ => none }
def IcmpSizesWrongFalsely : Prop := icmpSizesRow.holds Try.pinned (OpenSpec.ofChange icmpSizesWrong)

/- THE SECOND FORM. 'bulk': how many values and letters a reading holds, each counted each time it is reached (what is shared counts as often as it is met; a slice's spare places count too). A statement '..UptoSaid' is the law's where the arguments, and the package variables that the reading takes, are together of bulk at most 1048576: NARROWER than '..Said'. Prove '..Said' where nothing that the law and all that it calls make is longer than what came in: it says more and counts as full. Else prove '..UptoSaid'. A law counts once. -/
mutual
def uptoBulk {H : Type} : DataW H → Nat
  | .lit (.string bytes) => bytes.length + 1
  | .lit _ => 1
  | .nil => 1
  | .ptr d => uptoBulk d + 1
  | .slice elems spare => uptoBulkAll elems + uptoBulkAll spare + 1
  | .agg parts => uptoBulkAll parts + 1
  | .iface _ d => uptoBulk d + 1
  | .map entries => uptoBulkEntries entries + 1
  | .held _ => 1
def uptoBulkAll {H : Type} : List (DataW H) → Nat
  | [] => 0
  | d :: r => uptoBulk d + uptoBulkAll r
def uptoBulkEntries {H : Type} : List (Lit × DataW H) → Nat
  | [] => 0
  | x :: r => uptoBulkEntry x + uptoBulkEntries r
def uptoBulkEntry {H : Type} : Lit × DataW H → Nat
  | (.string bytes, d) => bytes.length + uptoBulk d + 1
  | (_, d) => uptoBulk d + 1
 end
def uptoSmall : (H : Type) → List (DataW H) → Bool := fun _ ds => decide (uptoBulkAll ds ≤ 1048576)
def OpenSpec.upto (s : _root_.Go.ChangeSpec) : _root_.Go.OpenSpec := { _root_.Go.OpenSpec.ofChange s with cond := some uptoSmall }

/-- 'underpasslaw07.IcmpUnlike', WHERE WHAT IT READS IS OF BULK AT MOST 1048576: true; the input reads as it did. -/
def icmpUnlikeUptoRow : OpenClaim := { program := "ytlhanaglhkmcfaa", sum := "a4bf01305c53c7d602d23bf5e708c154a3e90bde616eaacb69ffd3508fac9662", func := "underpass/underpasslaw07.IcmpUnlike", spec := "icmpUnlike", unfollowed := true, recurses := true, apart := false, narrowed := true }
def IcmpUnlikeUptoSaid : Prop := icmpUnlikeUptoRow.holds Try.pinned (OpenSpec.upto icmpUnlikeSpec)

/-- 'underpasslaw07.IcmpReplies', WHERE WHAT IT READS IS OF BULK AT MOST 1048576: true; the input reads as it did. -/
def icmpRepliesUptoRow : OpenClaim := { program := "ytlhanaglhkmcfaa", sum := "a4bf01305c53c7d602d23bf5e708c154a3e90bde616eaacb69ffd3508fac9662", func := "underpass/underpasslaw07.IcmpReplies", spec := "icmpReplies", unfollowed := true, recurses := true, apart := false, narrowed := true }
def IcmpRepliesUptoSaid : Prop := icmpRepliesUptoRow.holds Try.pinned (OpenSpec.upto icmpRepliesSpec)

/-- 'underpasslaw07.IcmpSizes', WHERE WHAT IT READS IS OF BULK AT MOST 1048576: true; the input reads as it did. -/
def icmpSizesUptoRow : OpenClaim := { program := "ytlhanaglhkmcfaa", sum := "a4bf01305c53c7d602d23bf5e708c154a3e90bde616eaacb69ffd3508fac9662", func := "underpass/underpasslaw07.IcmpSizes", spec := "icmpSizes", unfollowed := true, recurses := true, apart := false, narrowed := true }
def IcmpSizesUptoSaid : Prop := icmpSizesUptoRow.holds Try.pinned (OpenSpec.upto icmpSizesSpec)

end Rows
end Go.Proofs.Ytlhanaglhkmcfaa
