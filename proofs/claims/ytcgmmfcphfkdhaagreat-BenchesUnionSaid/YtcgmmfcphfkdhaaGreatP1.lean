/- The program's tables, as the abstract machine asks. -/
import Derived.Test.YtcgmmfcphfkdhaaGreatGrAbsE
import Derived.Test.YtcgmmfcphfkdhaaGreatProg
import Derived.KernelRfl
namespace Go.Abs
open Go Go.RowKit Go.Proofs

theorem types_ok : typesOk Tryz.prog.types.toList = true := by kernel_rfl

theorem names_ok : namesOk Tryz.prog.funcs.toList = true := by kernel_rfl

theorem pok : POk Tryz.prog := pok_of types_ok names_ok (by kernel_rfl)

end Go.Abs
