/- The abstract machine, part LH. -/
import Derived.Test.YtcfapbccegijnaaGreatLG
import Derived.Test.YtcfapbccegijnaaGreatN1
/- Walks: the reference's simple. -/
namespace Go.Proofs.YtcfapbccegijnaaGreat
open Go Go.RowKit Go.Proofs

end Go.Proofs.YtcfapbccegijnaaGreat

/- Walks: the reference's ValidOutline. -/
namespace Go.Proofs.YtcfapbccegijnaaGreat
open Go Go.RowKit Go.Proofs

end Go.Proofs.YtcfapbccegijnaaGreat

/- The two tests of an outline are one. -/
namespace Go.Proofs.YtcfapbccegijnaaGreat
open Go Go.RowKit Go.Proofs

end Go.Proofs.YtcfapbccegijnaaGreat
