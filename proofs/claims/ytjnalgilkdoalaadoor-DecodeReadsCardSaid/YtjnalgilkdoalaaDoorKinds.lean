/- Of which kind operations are. Plain definitions. Conditions: none. -/
import Derived.Test.YtjnalgilkdoalaaDoorDec0
namespace Go.Proofs.YtjnalgilkdoalaaDoor

/-- what is serial -/
def serOf (o : Int) : Bool := o == 11 || o == 12 || o == 13 || o == 14 || o == 15 || o == 16 || o == 17 || o == 18 || o == 19 || o == 0
/-- what accesses memory -/
def memOf (o : Int) : Bool := o == 6 || o == 7 || o == 20 || o == 21 || o == 22
end Go.Proofs.YtjnalgilkdoalaaDoor
