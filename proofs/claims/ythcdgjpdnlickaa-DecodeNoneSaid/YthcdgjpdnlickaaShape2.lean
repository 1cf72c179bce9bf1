/- What the inner calls of package shape come to: immediates. Conditions: named at each. -/
import Derived.Test.YthcdgjpdnlickaaShape1
namespace Go.Proofs.Ythcdgjpdnlickaa
open Go.RowKit

end Go.Proofs.Ythcdgjpdnlickaa
