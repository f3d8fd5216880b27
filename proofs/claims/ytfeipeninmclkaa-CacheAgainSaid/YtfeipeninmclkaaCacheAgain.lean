/-
  What is proved: CacheAgain: for any steps, on two caches alike, one's packets written over behind Wait, the law returns true, and leaves its arguments as they were.
  Conditions: none.
-/
import Derived.Test.YtfeipeninmclkaaLawCaAgain
import Derived.Test.YtfeipeninmclkaaRowCacheAgain
namespace Go.Proofs.Ytfeipeninmclkaa
theorem cacheAgain_holds : Rows.CacheAgainSaid := cacheAgain_row cacheAgain_con
end Go.Proofs.Ytfeipeninmclkaa
