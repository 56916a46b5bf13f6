/- Walks: frame and Frame. -/
import Derived.Test.YtcgmmfcphfkdhaaGreatB2
namespace Go.Proofs.YtcgmmfcphfkdhaaGreat
open Go Go.RowKit Go.Proofs Go.Torn

end Go.Proofs.YtcgmmfcphfkdhaaGreat
