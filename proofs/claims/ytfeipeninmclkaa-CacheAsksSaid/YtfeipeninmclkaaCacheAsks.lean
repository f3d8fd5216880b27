/-
  What is proved: CacheAsks: for any address, time and number of packets, the law returns true, and leaves its arguments as they were.
  Conditions: none.
-/
import Derived.Test.YtfeipeninmclkaaLawCaAsks
import Derived.Test.YtfeipeninmclkaaRowCacheAsks
namespace Go.Proofs.Ytfeipeninmclkaa
theorem cacheAsks_holds : Rows.CacheAsksSaid := cacheAsks_row cacheAsks_con
end Go.Proofs.Ytfeipeninmclkaa
