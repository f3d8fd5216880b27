/-
  What is proved: OctetsNumbers: for every four bytes the law returns true, and leaves its arguments as they were (the tied card).
  Conditions: the variable errors.errorType starts as the program's text lays it (the card ties it).
-/
import Derived.Test.YtgbopegjieonhaaDoorLawNumbers
import Derived.Test.YtgbopegjieonhaaDoorCdNumbers
namespace Go.Proofs.YtgbopegjieonhaaDoor
theorem octetsNumbers_holds : Rows.OctetsNumbersCardSaid := numbers_card (numbers_row numbers_any)
end Go.Proofs.YtgbopegjieonhaaDoor
