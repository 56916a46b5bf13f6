/- The closed calls at the head of every statement: they answer true, in any world. -/
import Derived.Test.YtpknllbglppjcaaE
namespace Go.Proofs.Ytpknllbglppjcaa
open Go Go.RowKit Go.Proofs Go.Abs

theorem awake_any (w : World) : Calls Try.prog 17 #[] w fun e w' => e = .returned (.bool true) ∧ Below w.heap.size w w' :=
  Reader.closed e37_ok rfl rfl rfl w

end Go.Proofs.Ytpknllbglppjcaa
