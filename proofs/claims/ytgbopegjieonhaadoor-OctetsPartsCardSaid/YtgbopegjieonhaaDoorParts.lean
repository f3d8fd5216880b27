/-
  What is proved: OctetsParts: for any bytes and sizes the law returns true, and leaves its arguments as they were (the tied card).
  Conditions: the variable errors.errorType starts as the program's text lays it (the card ties it).
-/
import Derived.Test.YtgbopegjieonhaaDoorLawParts
import Derived.Test.YtgbopegjieonhaaDoorCdParts
namespace Go.Proofs.YtgbopegjieonhaaDoor
theorem octetsParts_holds : Rows.OctetsPartsCardSaid := parts_card (parts_row parts_any)
end Go.Proofs.YtgbopegjieonhaaDoor
