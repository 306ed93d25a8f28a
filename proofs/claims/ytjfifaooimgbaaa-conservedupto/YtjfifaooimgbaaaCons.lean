import Derived.Test.YtjfifaooimgbaaaXc
import Derived.Test.YtjfifaooimgbaaaRo
/- Conserved, of the landed exchange. -/
namespace Go.Proofs.Ytjfifaooimgbaaa
theorem conserved_holds : Rows.ConservedUptoSaid := conserved_of exch
#print axioms conserved_holds
end Go.Proofs.Ytjfifaooimgbaaa
