import Derived.Test.YteeplklhbhaicaaXc
import Derived.Test.YteeplklhbhaicaaRs
/- Sealed, of the landed exchange. -/
namespace Go.Proofs.Yteeplklhbhaicaa
theorem sealed_holds : Rows.SealedUptoSaid := sealed_of exch
#print axioms sealed_holds
end Go.Proofs.Yteeplklhbhaicaa
