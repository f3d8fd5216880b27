/-
  What is proved: CacheOnce: of any steps whose packets are numbered, what was taken is as many as were told, and went; none is told twice, those of one address in order, the law returns true, and leaves its arguments as they were.
  Conditions: none.
-/
import Derived.Test.YtfeipeninmclkaaLawCaOnce
import Derived.Test.YtfeipeninmclkaaRowCacheOnce
namespace Go.Proofs.Ytfeipeninmclkaa
theorem cacheOnce_holds : Rows.CacheOnceSaid := cacheOnce_row cacheOnce_con
end Go.Proofs.Ytfeipeninmclkaa
