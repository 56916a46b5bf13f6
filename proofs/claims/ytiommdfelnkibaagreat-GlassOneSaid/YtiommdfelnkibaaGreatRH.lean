/- The abstract machine, part RH. -/
import Derived.Test.YtiommdfelnkibaaGreatRG
import Derived.Test.YtiommdfelnkibaaGreatLK
import Derived.Test.YtiommdfelnkibaaGreatH0
import Derived.Test.YtiommdfelnkibaaGreatVQ
/- Walks: SamePiece of equal pieces; Shows and Marks of the program, told as the reference's. -/
namespace Go.Proofs.YtiommdfelnkibaaGreat
open Go Go.RowKit Go.Proofs Go.Abs

end Go.Proofs.YtiommdfelnkibaaGreat

/- Walks: law 4 (GlassResets). -/
namespace Go.Proofs.YtiommdfelnkibaaGreat
open Go Go.RowKit Go.Proofs Go.Abs

end Go.Proofs.YtiommdfelnkibaaGreat
