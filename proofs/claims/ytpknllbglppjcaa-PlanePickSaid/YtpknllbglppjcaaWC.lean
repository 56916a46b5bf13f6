/- The abstract machine, part WC. -/
import Derived.Test.YtpknllbglppjcaaWB
/- Walks: the reference's On. -/
namespace Go.Proofs.Ytpknllbglppjcaa
open Go Go.RowKit Go.Proofs

end Go.Proofs.Ytpknllbglppjcaa

/- Walks: isFree. -/
namespace Go.Proofs.Ytpknllbglppjcaa
open Go Go.RowKit Go.Proofs

end Go.Proofs.Ytpknllbglppjcaa
