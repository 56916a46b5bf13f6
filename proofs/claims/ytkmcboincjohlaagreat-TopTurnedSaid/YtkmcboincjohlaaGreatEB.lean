/- Calls that are known. -/
import Derived.Test.YtkmcboincjohlaaGreatEA
namespace Go.Proofs.YtkmcboincjohlaaGreat
open Go Go.RowKit Go.Proofs Go.Abs

/- leadlight/web.wrongMeet -/
def e65 : Reader := ⟨137, [(.agg #[(.slice (some ⟨0, 0, none⟩) 6 6), (.slice (some ⟨1, 0, none⟩) 7 7)])], [.cells [(.int .i64 (1)), (.int .i64 (0)), (.int .i64 (0)), (.int .i64 (2)), (.int .i64 (4)), (.int .i64 (0)), (.int .i64 (3)), (.int .i64 (8)), (.int .i64 (0)), (.int .i64 (4)), (.int .i64 (8)), (.int .i64 (4)), (.int .i64 (5)), (.int .i64 (4)), (.int .i64 (4)), (.int .i64 (6)), (.int .i64 (0)), (.int .i64 (4))] 98 false, .cells [(.int .i64 (1)), (.int .i64 (1)), (.int .i64 (2)), (.int .i64 (0)), (.int .i64 (2)), (.int .i64 (2)), (.int .i64 (1)), (.int .i64 (3)), (.int .i64 (2)), (.int .i64 (2)), (.int .i64 (3)), (.int .i64 (0)), (.int .i64 (2)), (.int .i64 (2)), (.int .i64 (1)), (.int .i64 (3)), (.int .i64 (3)), (.int .i64 (3)), (.int .i64 (4)), (.int .i64 (0)), (.int .i64 (2)), (.int .i64 (2)), (.int .i64 (1)), (.int .i64 (3)), (.int .i64 (4)), (.int .i64 (4)), (.int .i64 (5)), (.int .i64 (0)), (.int .i64 (2)), (.int .i64 (2)), (.int .i64 (1)), (.int .i64 (3)), (.int .i64 (5)), (.int .i64 (5)), (.int .i64 (6)), (.int .i64 (0)), (.int .i64 (2)), (.int .i64 (2)), (.int .i64 (1)), (.int .i64 (3)), (.int .i64 (6)), (.int .i64 (6)), (.int .i64 (1)), (.int .i64 (0)), (.int .i64 (2)), (.int .i64 (2)), (.int .i64 (1)), (.int .i64 (3)), (.int .i64 (7)), (.int .i64 (2)), (.int .i64 (5)), (.int .i64 (0)), (.int .i64 (2)), (.int .i64 (2)), (.int .i64 (1)), (.int .i64 (3))] 100 false], (.int .i64 (-1)), []⟩

theorem e65_ok : e65.Ok Tryz.prog := Reader.okC (n := 400) (k := e65) pok (orT_sound (tabC_sound (ok_cons e41_ok (ok_cons e45_ok (ok_cons e52_ok (ok_cons e64_ok (ok_cons e50_ok (ok_cons e63_ok (ok_cons e43_ok (ok_cons e62_ok (ok_cons e47_ok (ok_cons e61_ok (ok_cons e60_ok (ok_cons e59_ok (ok_cons e58_ok (ok_cons e57_ok (ok_cons e56_ok (ok_cons e55_ok ok_nil))))))))))))))))) leaf2_ok) [] (by kernel_rfl) (by kernel_rfl) (by kernel_rfl)

end Go.Proofs.YtkmcboincjohlaaGreat
