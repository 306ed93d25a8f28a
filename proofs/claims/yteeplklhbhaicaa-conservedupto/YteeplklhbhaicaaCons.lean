import Derived.Test.YteeplklhbhaicaaXc
import Derived.Test.YteeplklhbhaicaaRo
/- Conserved, of the landed exchange. -/
namespace Go.Proofs.Yteeplklhbhaicaa
theorem conserved_holds : Rows.ConservedUptoSaid := conserved_of exch
#print axioms conserved_holds
end Go.Proofs.Yteeplklhbhaicaa
