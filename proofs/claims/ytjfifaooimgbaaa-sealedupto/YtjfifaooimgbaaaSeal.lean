import Derived.Test.YtjfifaooimgbaaaXc
import Derived.Test.YtjfifaooimgbaaaRs
/- Sealed, of the landed exchange. -/
namespace Go.Proofs.Ytjfifaooimgbaaa
theorem sealed_holds : Rows.SealedUptoSaid := sealed_of exch
#print axioms sealed_holds
end Go.Proofs.Ytjfifaooimgbaaa
