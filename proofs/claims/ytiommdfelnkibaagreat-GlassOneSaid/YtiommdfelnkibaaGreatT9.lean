/- Walks: law 4 (GlassGauges). -/
import Derived.Test.YtiommdfelnkibaaGreatLK
import Derived.Test.YtiommdfelnkibaaGreatAwake
import Derived.Deep.Cut
namespace Go.Proofs.YtiommdfelnkibaaGreat
open Go Go.RowKit Go.Proofs Go.Abs

end Go.Proofs.YtiommdfelnkibaaGreat
