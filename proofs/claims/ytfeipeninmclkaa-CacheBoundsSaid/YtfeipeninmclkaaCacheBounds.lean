/-
  What is proved: CacheBounds: for any steps and any address, the law returns true, and leaves its arguments as they were.
  Conditions: none.
-/
import Derived.Test.YtfeipeninmclkaaLawCaBounds
import Derived.Test.YtfeipeninmclkaaRowCacheBounds
namespace Go.Proofs.Ytfeipeninmclkaa
theorem cacheBounds_holds : Rows.CacheBoundsSaid := cacheBounds_row cacheBounds_con
end Go.Proofs.Ytfeipeninmclkaa
