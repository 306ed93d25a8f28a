import Derived.Test.YteeplklhbhaicaaXc
import Derived.Test.YteeplklhbhaicaaRo
/- Honest, of the landed exchange. -/
namespace Go.Proofs.Yteeplklhbhaicaa
theorem honest_holds : Rows.HonestUptoSaid := honest_of exch
#print axioms honest_holds
end Go.Proofs.Yteeplklhbhaicaa
