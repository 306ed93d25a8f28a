import Derived.Test.YtjfifaooimgbaaaXc
import Derived.Test.YtjfifaooimgbaaaRo
/- Honest, of the landed exchange. -/
namespace Go.Proofs.Ytjfifaooimgbaaa
theorem honest_holds : Rows.HonestUptoSaid := honest_of exch
#print axioms honest_holds
end Go.Proofs.Ytjfifaooimgbaaa
