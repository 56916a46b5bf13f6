/- The program's tables, as the abstract machine asks. -/
import Derived.Test.YtlocdadkhdcedaaAbsE
import Derived.Test.YtlocdadkhdcedaaProg
import Derived.KernelRfl
namespace Go.Abs
open Go Go.RowKit Go.Proofs

theorem types_ok : typesOk Try.prog.types.toList = true := by kernel_rfl

theorem names_ok : namesOk Try.prog.funcs.toList = true := by kernel_rfl

theorem pok : POk Try.prog := pok_of types_ok names_ok (by kernel_rfl)

end Go.Abs
