/- Walks: common and both of the reference. -/
import Derived.Test.YtiommdfelnkibaaGreatSB
import Derived.BigRegion
namespace Go.Proofs.YtiommdfelnkibaaGreat
open Go Go.RowKit Go.Proofs Go.Abs

end Go.Proofs.YtiommdfelnkibaaGreat
