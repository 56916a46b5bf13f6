/- Walks: the reference's Where. -/
import Derived.Test.YtpknllbglppjcaaJB
import Derived.Test.YtpknllbglppjcaaGS
import Derived.Test.YtpknllbglppjcaaXA
import Derived.Test.YtpknllbglppjcaaGR
import Derived.Test.YtpknllbglppjcaaWC
namespace Go.Proofs.Ytpknllbglppjcaa
open Go Go.RowKit Go.Proofs Go.Abs Go.Plain

/-- How an edge counts. -/
def cwI (_x0 y0 _x1 y1 _px_ py_ sd : Int) : Int := if y0 ≤ py_ ∧ py_ < y1 ∧ 0 < sd then 1 else if y1 ≤ py_ ∧ py_ < y0 ∧ sd < 0 then -1 else 0

end Go.Proofs.Ytpknllbglppjcaa
