/- Calls that are known. -/
import Derived.Test.YtkmcboincjohlaaGreatEA
namespace Go.Proofs.YtkmcboincjohlaaGreat
open Go Go.RowKit Go.Proofs Go.Abs

/- leadlight/web.validLead -/
def e66 : Reader := ⟨160, [(.slice (some ⟨0, 0, none⟩) 6 6), (.agg #[(.int .i64 (7)), (.int .i64 (2)), (.int .i64 (5)), (.int .i64 (0)), (.int .i64 (2)), (.int .i64 (2)), (.int .i64 (1)), (.int .i64 (3))])], [.cells [(.int .i64 (1)), (.int .i64 (0)), (.int .i64 (0)), (.int .i64 (2)), (.int .i64 (4)), (.int .i64 (0)), (.int .i64 (3)), (.int .i64 (8)), (.int .i64 (0)), (.int .i64 (4)), (.int .i64 (8)), (.int .i64 (4)), (.int .i64 (5)), (.int .i64 (4)), (.int .i64 (4)), (.int .i64 (6)), (.int .i64 (0)), (.int .i64 (4))] 98 false], (.bool true), []⟩

theorem e66_ok : e66.Ok Tryz.prog := Reader.okC (n := 400) (k := e66) pok (orT_sound (tabC_sound (ok_cons e45_ok (ok_cons e43_ok ok_nil))) leaf2_ok) [] (by kernel_rfl) (by kernel_rfl) (by kernel_rfl)

/- leadlight/web.validLead -/
def e67 : Reader := ⟨160, [(.slice (some ⟨0, 0, none⟩) 6 6), (.agg #[(.int .i64 (6)), (.int .i64 (6)), (.int .i64 (1)), (.int .i64 (0)), (.int .i64 (2)), (.int .i64 (2)), (.int .i64 (1)), (.int .i64 (3))])], [.cells [(.int .i64 (1)), (.int .i64 (0)), (.int .i64 (0)), (.int .i64 (2)), (.int .i64 (4)), (.int .i64 (0)), (.int .i64 (3)), (.int .i64 (8)), (.int .i64 (0)), (.int .i64 (4)), (.int .i64 (8)), (.int .i64 (4)), (.int .i64 (5)), (.int .i64 (4)), (.int .i64 (4)), (.int .i64 (6)), (.int .i64 (0)), (.int .i64 (4))] 98 false], (.bool true), []⟩

theorem e67_ok : e67.Ok Tryz.prog := Reader.okC (n := 400) (k := e67) pok (orT_sound (tabC_sound (ok_cons e47_ok (ok_cons e41_ok ok_nil))) leaf2_ok) [] (by kernel_rfl) (by kernel_rfl) (by kernel_rfl)

/- leadlight/web.validLead -/
def e68 : Reader := ⟨160, [(.slice (some ⟨0, 0, none⟩) 6 6), (.agg #[(.int .i64 (5)), (.int .i64 (5)), (.int .i64 (6)), (.int .i64 (0)), (.int .i64 (2)), (.int .i64 (2)), (.int .i64 (1)), (.int .i64 (3))])], [.cells [(.int .i64 (1)), (.int .i64 (0)), (.int .i64 (0)), (.int .i64 (2)), (.int .i64 (4)), (.int .i64 (0)), (.int .i64 (3)), (.int .i64 (8)), (.int .i64 (0)), (.int .i64 (4)), (.int .i64 (8)), (.int .i64 (4)), (.int .i64 (5)), (.int .i64 (4)), (.int .i64 (4)), (.int .i64 (6)), (.int .i64 (0)), (.int .i64 (4))] 98 false], (.bool true), []⟩

theorem e68_ok : e68.Ok Tryz.prog := Reader.okC (n := 400) (k := e68) pok (orT_sound (tabC_sound (ok_cons e43_ok (ok_cons e47_ok ok_nil))) leaf2_ok) [] (by kernel_rfl) (by kernel_rfl) (by kernel_rfl)

/- leadlight/web.validLead -/
def e69 : Reader := ⟨160, [(.slice (some ⟨0, 0, none⟩) 6 6), (.agg #[(.int .i64 (4)), (.int .i64 (4)), (.int .i64 (5)), (.int .i64 (0)), (.int .i64 (2)), (.int .i64 (2)), (.int .i64 (1)), (.int .i64 (3))])], [.cells [(.int .i64 (1)), (.int .i64 (0)), (.int .i64 (0)), (.int .i64 (2)), (.int .i64 (4)), (.int .i64 (0)), (.int .i64 (3)), (.int .i64 (8)), (.int .i64 (0)), (.int .i64 (4)), (.int .i64 (8)), (.int .i64 (4)), (.int .i64 (5)), (.int .i64 (4)), (.int .i64 (4)), (.int .i64 (6)), (.int .i64 (0)), (.int .i64 (4))] 98 false], (.bool true), []⟩

theorem e69_ok : e69.Ok Tryz.prog := Reader.okC (n := 400) (k := e69) pok (orT_sound (tabC_sound (ok_cons e50_ok (ok_cons e43_ok ok_nil))) leaf2_ok) [] (by kernel_rfl) (by kernel_rfl) (by kernel_rfl)

/- leadlight/web.validLead -/
def e70 : Reader := ⟨160, [(.slice (some ⟨0, 0, none⟩) 6 6), (.agg #[(.int .i64 (3)), (.int .i64 (3)), (.int .i64 (4)), (.int .i64 (0)), (.int .i64 (2)), (.int .i64 (2)), (.int .i64 (1)), (.int .i64 (3))])], [.cells [(.int .i64 (1)), (.int .i64 (0)), (.int .i64 (0)), (.int .i64 (2)), (.int .i64 (4)), (.int .i64 (0)), (.int .i64 (3)), (.int .i64 (8)), (.int .i64 (0)), (.int .i64 (4)), (.int .i64 (8)), (.int .i64 (4)), (.int .i64 (5)), (.int .i64 (4)), (.int .i64 (4)), (.int .i64 (6)), (.int .i64 (0)), (.int .i64 (4))] 98 false], (.bool true), []⟩

theorem e70_ok : e70.Ok Tryz.prog := Reader.okC (n := 400) (k := e70) pok (orT_sound (tabC_sound (ok_cons e52_ok (ok_cons e50_ok ok_nil))) leaf2_ok) [] (by kernel_rfl) (by kernel_rfl) (by kernel_rfl)

/- leadlight/web.validLead -/
def e71 : Reader := ⟨160, [(.slice (some ⟨0, 0, none⟩) 6 6), (.agg #[(.int .i64 (2)), (.int .i64 (2)), (.int .i64 (3)), (.int .i64 (0)), (.int .i64 (2)), (.int .i64 (2)), (.int .i64 (1)), (.int .i64 (3))])], [.cells [(.int .i64 (1)), (.int .i64 (0)), (.int .i64 (0)), (.int .i64 (2)), (.int .i64 (4)), (.int .i64 (0)), (.int .i64 (3)), (.int .i64 (8)), (.int .i64 (0)), (.int .i64 (4)), (.int .i64 (8)), (.int .i64 (4)), (.int .i64 (5)), (.int .i64 (4)), (.int .i64 (4)), (.int .i64 (6)), (.int .i64 (0)), (.int .i64 (4))] 98 false], (.bool true), []⟩

theorem e71_ok : e71.Ok Tryz.prog := Reader.okC (n := 400) (k := e71) pok (orT_sound (tabC_sound (ok_cons e45_ok (ok_cons e52_ok ok_nil))) leaf2_ok) [] (by kernel_rfl) (by kernel_rfl) (by kernel_rfl)

/- leadlight/web.validLead -/
def e72 : Reader := ⟨160, [(.slice (some ⟨0, 0, none⟩) 6 6), (.agg #[(.int .i64 (1)), (.int .i64 (1)), (.int .i64 (2)), (.int .i64 (0)), (.int .i64 (2)), (.int .i64 (2)), (.int .i64 (1)), (.int .i64 (3))])], [.cells [(.int .i64 (1)), (.int .i64 (0)), (.int .i64 (0)), (.int .i64 (2)), (.int .i64 (4)), (.int .i64 (0)), (.int .i64 (3)), (.int .i64 (8)), (.int .i64 (0)), (.int .i64 (4)), (.int .i64 (8)), (.int .i64 (4)), (.int .i64 (5)), (.int .i64 (4)), (.int .i64 (4)), (.int .i64 (6)), (.int .i64 (0)), (.int .i64 (4))] 98 false], (.bool true), []⟩

theorem e72_ok : e72.Ok Tryz.prog := Reader.okC (n := 400) (k := e72) pok (orT_sound (tabC_sound (ok_cons e41_ok (ok_cons e45_ok ok_nil))) leaf2_ok) [] (by kernel_rfl) (by kernel_rfl) (by kernel_rfl)

/- leadlight/web.wrongLead -/
def e73 : Reader := ⟨136, [(.agg #[(.slice (some ⟨0, 0, none⟩) 6 6), (.slice (some ⟨1, 0, none⟩) 7 7)])], [.cells [(.int .i64 (1)), (.int .i64 (0)), (.int .i64 (0)), (.int .i64 (2)), (.int .i64 (4)), (.int .i64 (0)), (.int .i64 (3)), (.int .i64 (8)), (.int .i64 (0)), (.int .i64 (4)), (.int .i64 (8)), (.int .i64 (4)), (.int .i64 (5)), (.int .i64 (4)), (.int .i64 (4)), (.int .i64 (6)), (.int .i64 (0)), (.int .i64 (4))] 98 false, .cells [(.int .i64 (1)), (.int .i64 (1)), (.int .i64 (2)), (.int .i64 (0)), (.int .i64 (2)), (.int .i64 (2)), (.int .i64 (1)), (.int .i64 (3)), (.int .i64 (2)), (.int .i64 (2)), (.int .i64 (3)), (.int .i64 (0)), (.int .i64 (2)), (.int .i64 (2)), (.int .i64 (1)), (.int .i64 (3)), (.int .i64 (3)), (.int .i64 (3)), (.int .i64 (4)), (.int .i64 (0)), (.int .i64 (2)), (.int .i64 (2)), (.int .i64 (1)), (.int .i64 (3)), (.int .i64 (4)), (.int .i64 (4)), (.int .i64 (5)), (.int .i64 (0)), (.int .i64 (2)), (.int .i64 (2)), (.int .i64 (1)), (.int .i64 (3)), (.int .i64 (5)), (.int .i64 (5)), (.int .i64 (6)), (.int .i64 (0)), (.int .i64 (2)), (.int .i64 (2)), (.int .i64 (1)), (.int .i64 (3)), (.int .i64 (6)), (.int .i64 (6)), (.int .i64 (1)), (.int .i64 (0)), (.int .i64 (2)), (.int .i64 (2)), (.int .i64 (1)), (.int .i64 (3)), (.int .i64 (7)), (.int .i64 (2)), (.int .i64 (5)), (.int .i64 (0)), (.int .i64 (2)), (.int .i64 (2)), (.int .i64 (1)), (.int .i64 (3))] 100 false], (.int .i64 (-1)), []⟩

theorem e73_ok : e73.Ok Tryz.prog := Reader.okC (n := 400) (k := e73) pok (orT_sound (tabC_sound (ok_cons e72_ok (ok_cons e71_ok (ok_cons e70_ok (ok_cons e69_ok (ok_cons e68_ok (ok_cons e67_ok (ok_cons e66_ok ok_nil)))))))) leaf2_ok) [] (by kernel_rfl) (by kernel_rfl) (by kernel_rfl)

/- leadlight/web.wrongJoint -/
def e74 : Reader := ⟨135, [(.slice (some ⟨0, 0, none⟩) 6 6)], [.cells [(.int .i64 (1)), (.int .i64 (0)), (.int .i64 (0)), (.int .i64 (2)), (.int .i64 (4)), (.int .i64 (0)), (.int .i64 (3)), (.int .i64 (8)), (.int .i64 (0)), (.int .i64 (4)), (.int .i64 (8)), (.int .i64 (4)), (.int .i64 (5)), (.int .i64 (4)), (.int .i64 (4)), (.int .i64 (6)), (.int .i64 (0)), (.int .i64 (4))] 98 false], (.int .i64 (-1)), []⟩

theorem e74_ok : e74.Ok Tryz.prog := Reader.okC (n := 400) (k := e74) pok (orT_sound (tabC_sound ok_nil) leaf2_ok) [] (by kernel_rfl) (by kernel_rfl) (by kernel_rfl)

end Go.Proofs.YtkmcboincjohlaaGreat
