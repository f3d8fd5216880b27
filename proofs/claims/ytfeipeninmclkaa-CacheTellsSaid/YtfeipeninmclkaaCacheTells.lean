/-
  What is proved: CacheTells: of any steps, from any time on, every answer is the document's, and behind each step those of Find and Len, the law returns true, and leaves its arguments as they were.
  Conditions: none.
-/
import Derived.Test.YtfeipeninmclkaaLawCaTells
import Derived.Test.YtfeipeninmclkaaRowCacheTells
namespace Go.Proofs.Ytfeipeninmclkaa
theorem cacheTells_holds : Rows.CacheTellsSaid := cacheTells_row cacheTells_con
end Go.Proofs.Ytfeipeninmclkaa
