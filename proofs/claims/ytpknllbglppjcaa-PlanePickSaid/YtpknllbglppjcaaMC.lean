/- The abstract machine, part MC. -/
import Derived.Test.YtpknllbglppjcaaMA
import Derived.Test.YtpknllbglppjcaaGQ
import Derived.Lib.AppendZeros
import Derived.StillTailTactics
/- Walks: Clone, Reverse of points. -/
namespace Go.Proofs.Ytpknllbglppjcaa
open Go Go.RowKit Go.Proofs Go.Abs Go.Plain

end Go.Proofs.Ytpknllbglppjcaa

/- Walks: Grow, Concat of two slices of points. -/
namespace Go.Proofs.Ytpknllbglppjcaa
open Go Go.RowKit Go.Proofs Go.Abs Go.Plain

end Go.Proofs.Ytpknllbglppjcaa

/- Walks: Concat of two slices of points. -/
namespace Go.Proofs.Ytpknllbglppjcaa
open Go Go.RowKit Go.Proofs Go.Abs Go.Plain

end Go.Proofs.Ytpknllbglppjcaa

/- Walks: normal. -/
namespace Go.Proofs.Ytpknllbglppjcaa
open Go Go.RowKit Go.Proofs Go.Abs Go.Plain

end Go.Proofs.Ytpknllbglppjcaa
