/-
  What is proved: ArpCuts: for any input, the law returns true and leaves its arguments as they were (the tied card).
  Conditions: the listed package-level variables start as the program's text lays them (the card ties them).
-/
import Derived.Test.YtjfghobhneogjaaDoorLawACuts
import Derived.Test.YtjfghobhneogjaaDoorCdArpCuts
namespace Go.Proofs.YtjfghobhneogjaaDoor
theorem arpCuts_holds : Rows.ArpCutsCardSaid := arpCuts_card (arpCuts_row cuts_any)
end Go.Proofs.YtjfghobhneogjaaDoor
