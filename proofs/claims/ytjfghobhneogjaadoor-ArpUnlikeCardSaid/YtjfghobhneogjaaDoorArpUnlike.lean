/-
  What is proved: ArpUnlike: for any input, the law returns true and leaves its arguments as they were (the tied card).
  Conditions: the listed package-level variables start as the program's text lays them (the card ties them).
-/
import Derived.Test.YtjfghobhneogjaaDoorLawAUnlike
import Derived.Test.YtjfghobhneogjaaDoorCdArpUnlike
namespace Go.Proofs.YtjfghobhneogjaaDoor
theorem arpUnlike_holds : Rows.ArpUnlikeCardSaid := arpUnlike_card (arpUnlike_row unlike_any)
end Go.Proofs.YtjfghobhneogjaaDoor
