/-
  What is proved: CacheKnows: for any steps, any address and MAC, and any time behind, the law returns true, and leaves its arguments as they were.
  Conditions: none.
-/
import Derived.Test.YtfeipeninmclkaaLawCaKnows
import Derived.Test.YtfeipeninmclkaaRowCacheKnows
namespace Go.Proofs.Ytfeipeninmclkaa
theorem cacheKnows_holds : Rows.CacheKnowsSaid := cacheKnows_row cacheKnows_con
end Go.Proofs.Ytfeipeninmclkaa
