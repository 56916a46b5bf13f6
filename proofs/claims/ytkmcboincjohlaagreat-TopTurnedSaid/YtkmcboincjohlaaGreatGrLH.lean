/- The abstract machine, part GrLH. -/
import Derived.Test.YtkmcboincjohlaaGreatGrLG
import Derived.Test.YtkmcboincjohlaaGreatN1
/- Walks: the reference's simple. -/
namespace Go.Proofs.YtkmcboincjohlaaGreat
open Go Go.RowKit Go.Proofs

end Go.Proofs.YtkmcboincjohlaaGreat

/- Walks: the reference's ValidOutline. -/
namespace Go.Proofs.YtkmcboincjohlaaGreat
open Go Go.RowKit Go.Proofs

end Go.Proofs.YtkmcboincjohlaaGreat

/- The two tests of an outline are one. -/
namespace Go.Proofs.YtkmcboincjohlaaGreat
open Go Go.RowKit Go.Proofs

end Go.Proofs.YtkmcboincjohlaaGreat
