/- The closed calls at the head of every statement: they answer true, in any world. -/
import Derived.Test.YtiommdfelnkibaaGreatE
namespace Go.Proofs.YtiommdfelnkibaaGreat
open Go Go.RowKit Go.Proofs Go.Abs

theorem awake_any (w : World) : Calls Tryz.prog 10 #[] w fun e w' => e = .returned (.bool true) ∧ Below w.heap.size w w' :=
  Reader.closed e23_ok rfl rfl rfl w

end Go.Proofs.YtiommdfelnkibaaGreat
