/- Walks: law 4 (GlassGauges). -/
import Derived.Test.YtcfapbccegijnaaGreatLK
import Derived.Test.YtcfapbccegijnaaGreatAwake
import Derived.Deep.Cut
namespace Go.Proofs.YtcfapbccegijnaaGreat
open Go Go.RowKit Go.Proofs Go.Abs

end Go.Proofs.YtcfapbccegijnaaGreat
