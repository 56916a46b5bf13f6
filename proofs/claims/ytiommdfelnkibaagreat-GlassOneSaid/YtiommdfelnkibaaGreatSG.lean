/- Walks: united, where the pieces differ. -/
import Derived.Test.YtiommdfelnkibaaGreatSE
import Derived.Test.YtiommdfelnkibaaGreatZQ
import Derived.Test.YtiommdfelnkibaaGreatVZ
namespace Go.Proofs.YtiommdfelnkibaaGreat
open Go Go.RowKit Go.Proofs Go.Abs

end Go.Proofs.YtiommdfelnkibaaGreat
