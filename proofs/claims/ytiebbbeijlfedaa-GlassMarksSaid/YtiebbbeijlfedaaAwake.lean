/- The closed calls at the head of every statement: they answer true, in any world. -/
import Derived.Test.YtiebbbeijlfedaaE
namespace Go.Proofs.Ytiebbbeijlfedaa
open Go Go.RowKit Go.Proofs Go.Abs

theorem awake_any (w : World) : Calls Try.prog 9 #[] w fun e w' => e = .returned (.bool true) ∧ Below w.heap.size w w' :=
  Reader.closed e25_ok rfl rfl rfl w

end Go.Proofs.Ytiebbbeijlfedaa
