/- Calls that are known. -/
import Derived.Test.YtcgmmfcphfkdhaaGreatEB
namespace Go.Proofs.YtcgmmfcphfkdhaaGreat
open Go Go.RowKit Go.Proofs Go.Abs

/- leadlight/leadlightlaw09.awake -/
def e53 : Reader := ⟨10, [], [], (.bool true), []⟩

theorem e53_ok : e53.Ok Tryz.prog := Reader.okC (n := 400) (k := e53) pok (tabC_sound (ok_cons e52_ok (ok_cons e51_ok (ok_cons e45_ok (ok_cons e44_ok (ok_cons e43_ok (ok_cons e32_ok (ok_cons e31_ok (ok_cons e12_ok (ok_cons e3_ok (ok_cons e1_ok ok_nil))))))))))) [] (by kernel_rfl) (by kernel_rfl) (by kernel_rfl)

end Go.Proofs.YtcgmmfcphfkdhaaGreat
