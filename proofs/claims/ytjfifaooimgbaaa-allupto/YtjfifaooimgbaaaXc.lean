import Derived.Test.YtjfifaooimgbaaaNo2
import Derived.Test.YtjfifaooimgbaaaOp
/- The landed exchange keeps the contract. -/
namespace Go.Proofs.Ytjfifaooimgbaaa
open Go.Shelf Go.RowKit Go.Lib Go.Sort
theorem exch : Exch RepX where
  low := rep_low
  keep := fun h e _ => rep_keep h e
  open_ := rep_open new_any
  do_ := fun w S p x now r hR ok h0 h1 hj _ => rep_do w S p x now r hR ok (by omega) h1 hj
end Go.Proofs.Ytjfifaooimgbaaa
