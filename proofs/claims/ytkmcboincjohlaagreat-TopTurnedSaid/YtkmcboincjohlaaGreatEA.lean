/- Calls that are known. -/
import Derived.Test.YtkmcboincjohlaaGreatGrWT
import Derived.Test.YtkmcboincjohlaaGreatGrAbsG
namespace Go.Proofs.YtkmcboincjohlaaGreat
open Go Go.RowKit Go.Proofs Go.Abs

/- slices.Concat[[]leadlight/api.Side,leadlight/api.Side] -/
def e25 : Reader := ⟨43, [(.slice (some ⟨0, 0, none⟩) 4 4611686018427387908)], [.cells [(.slice (some ⟨1, 0, none⟩) 1 4611686018427387905), (.slice (some ⟨2, 0, none⟩) 1 4611686018427387905), (.slice (some ⟨3, 0, none⟩) 1 4611686018427387905), (.slice (some ⟨4, 0, none⟩) 1 4611686018427387905)] 107 false, .cells [(.int .i64 (2)), (.bool false)] 117 false, .cells [(.int .i64 (3)), (.bool false)] 117 false, .cells [(.int .i64 (4)), (.bool false)] 117 false, .cells [(.int .i64 (7)), (.bool true)] 117 false], (.slice (some ⟨5, 0, none⟩) 4 4611686018427387908), [.cells [(.int .i64 (2)), (.bool false), (.int .i64 (3)), (.bool false), (.int .i64 (4)), (.bool false), (.int .i64 (7)), (.bool true)] 117 true]⟩

theorem e25_ok : e25.Ok Tryz.prog := Reader.okC (n := 400) (k := e25) pok (orT_sound (tabC_sound ok_nil) leaf2_ok) [5] (by kernel_rfl) (by kernel_rfl) (by kernel_rfl)

/- slices.Concat[[]leadlight/api.Side,leadlight/api.Side] -/
def e26 : Reader := ⟨43, [(.slice (some ⟨0, 0, none⟩) 4 4611686018427387908)], [.cells [(.slice (some ⟨1, 0, none⟩) 1 4611686018427387905), (.slice (some ⟨2, 0, none⟩) 1 4611686018427387905), (.slice (some ⟨3, 0, none⟩) 1 4611686018427387905), (.slice (some ⟨4, 0, none⟩) 1 4611686018427387905)] 107 false, .cells [(.int .i64 (1)), (.bool false)] 117 false, .cells [(.int .i64 (7)), (.bool false)] 117 false, .cells [(.int .i64 (5)), (.bool false)] 117 false, .cells [(.int .i64 (6)), (.bool false)] 117 false], (.slice (some ⟨5, 0, none⟩) 4 4611686018427387908), [.cells [(.int .i64 (1)), (.bool false), (.int .i64 (7)), (.bool false), (.int .i64 (5)), (.bool false), (.int .i64 (6)), (.bool false)] 117 true]⟩

theorem e26_ok : e26.Ok Tryz.prog := Reader.okC (n := 400) (k := e26) pok (orT_sound (tabC_sound ok_nil) leaf2_ok) [5] (by kernel_rfl) (by kernel_rfl) (by kernel_rfl)

/- leadlight/web.comparePoints -/
def e27 : Reader := ⟨42, [(.agg #[(.int .i64 (4)), (.int .i64 (0))]), (.agg #[(.int .i64 (0)), (.int .i64 (0))])], [], (.int .i64 (1)), []⟩

theorem e27_ok : e27.Ok Tryz.prog := Reader.okC (n := 400) (k := e27) pok (orT_sound (tabC_sound ok_nil) leaf2_ok) [] (by kernel_rfl) (by kernel_rfl) (by kernel_rfl)

/- slices.insertionSortCmpFunc[leadlight/api.Pane] -/
def e28 : Reader := ⟨120, [(.slice (some ⟨0, 0, none⟩) 2 4611686018427387906), (.int .i64 (0)), (.int .i64 (2)), (.func (.func 40) #[] #[])], [.cells [(.int .i64 (0)), (.slice (some ⟨1, 0, none⟩) 4 4611686018427387908), (.slice (some ⟨2, 0, none⟩) 4 4611686018427387908), (.int .i64 (0)), (.slice (some ⟨7, 0, none⟩) 4 4611686018427387908), (.slice (some ⟨8, 0, none⟩) 4 4611686018427387908)] 37 false, .cells [(.int .i64 (0)), (.int .i64 (0)), (.int .i64 (4)), (.int .i64 (0)), (.int .i64 (4)), (.int .i64 (4)), (.int .i64 (0)), (.int .i64 (4))] 96 false, .cells [(.slice (some ⟨3, 0, none⟩) 1 4611686018427387905), (.slice (some ⟨4, 0, none⟩) 1 4611686018427387905), (.slice (some ⟨5, 0, none⟩) 1 4611686018427387905), (.slice (some ⟨6, 0, none⟩) 1 4611686018427387905)] 107 false, .cells [(.int .i64 (1)), (.bool false)] 117 false, .cells [(.int .i64 (7)), (.bool false)] 117 false, .cells [(.int .i64 (5)), (.bool false)] 117 false, .cells [(.int .i64 (6)), (.bool false)] 117 false, .cells [(.int .i64 (4)), (.int .i64 (0)), (.int .i64 (8)), (.int .i64 (0)), (.int .i64 (8)), (.int .i64 (4)), (.int .i64 (4)), (.int .i64 (4))] 96 false, .cells [(.slice (some ⟨9, 0, none⟩) 1 4611686018427387905), (.slice (some ⟨10, 0, none⟩) 1 4611686018427387905), (.slice (some ⟨11, 0, none⟩) 1 4611686018427387905), (.slice (some ⟨12, 0, none⟩) 1 4611686018427387905)] 107 false, .cells [(.int .i64 (2)), (.bool false)] 117 false, .cells [(.int .i64 (3)), (.bool false)] 117 false, .cells [(.int .i64 (4)), (.bool false)] 117 false, .cells [(.int .i64 (7)), (.bool true)] 117 false], (.tuple #[]), []⟩

theorem e28_ok : e28.Ok Tryz.prog := Reader.okC (n := 400) (k := e28) pok (orT_sound (tabC_sound (ok_cons e27_ok ok_nil)) leaf2_ok) [] (by kernel_rfl) (by kernel_rfl) (by kernel_rfl)

/- leadlight/web.comparePoints -/
def e29 : Reader := ⟨42, [(.agg #[(.int .i64 (4)), (.int .i64 (4))]), (.agg #[(.int .i64 (4)), (.int .i64 (0))])], [], (.int .i64 (1)), []⟩

theorem e29_ok : e29.Ok Tryz.prog := Reader.okC (n := 400) (k := e29) pok (orT_sound (tabC_sound ok_nil) leaf2_ok) [] (by kernel_rfl) (by kernel_rfl) (by kernel_rfl)

/- leadlight/web.comparePoints -/
def e30 : Reader := ⟨42, [(.agg #[(.int .i64 (8)), (.int .i64 (4))]), (.agg #[(.int .i64 (4)), (.int .i64 (0))])], [], (.int .i64 (1)), []⟩

theorem e30_ok : e30.Ok Tryz.prog := Reader.okC (n := 400) (k := e30) pok (orT_sound (tabC_sound ok_nil) leaf2_ok) [] (by kernel_rfl) (by kernel_rfl) (by kernel_rfl)

/- leadlight/web.comparePoints -/
def e31 : Reader := ⟨42, [(.agg #[(.int .i64 (8)), (.int .i64 (0))]), (.agg #[(.int .i64 (4)), (.int .i64 (0))])], [], (.int .i64 (1)), []⟩

theorem e31_ok : e31.Ok Tryz.prog := Reader.okC (n := 400) (k := e31) pok (orT_sound (tabC_sound ok_nil) leaf2_ok) [] (by kernel_rfl) (by kernel_rfl) (by kernel_rfl)

/- slices.MinFunc[[]leadlight/api.Point,leadlight/api.Point] -/
def e32 : Reader := ⟨78, [(.slice (some ⟨0, 0, none⟩) 4 4611686018427387908), (.func (.func 42) #[] #[])], [.cells [(.int .i64 (4)), (.int .i64 (0)), (.int .i64 (8)), (.int .i64 (0)), (.int .i64 (8)), (.int .i64 (4)), (.int .i64 (4)), (.int .i64 (4))] 96 false], (.agg #[(.int .i64 (4)), (.int .i64 (0))]), []⟩

theorem e32_ok : e32.Ok Tryz.prog := Reader.okC (n := 400) (k := e32) pok (orT_sound (tabC_sound (ok_cons e31_ok (ok_cons e30_ok (ok_cons e29_ok ok_nil)))) leaf2_ok) [] (by kernel_rfl) (by kernel_rfl) (by kernel_rfl)

/- leadlight/web.corners -/
def e33 : Reader := ⟨77, [(.slice (some ⟨0, 0, none⟩) 4 4611686018427387908)], [.cells [(.int .i64 (4)), (.int .i64 (0)), (.int .i64 (8)), (.int .i64 (0)), (.int .i64 (8)), (.int .i64 (4)), (.int .i64 (4)), (.int .i64 (4))] 96 false], (.slice (some ⟨1, 0, none⟩) 4 4611686018427387908), [.cells [(.int .i64 (0)), (.int .i64 (1)), (.int .i64 (2)), (.int .i64 (3))] 3 true]⟩

theorem e33_ok : e33.Ok Tryz.prog := Reader.okC (n := 400) (k := e33) pok (orT_sound (tabC_sound ok_nil) leaf2_ok) [12] (by kernel_rfl) (by kernel_rfl) (by kernel_rfl)

/- leadlight/web.doubled -/
def e34 : Reader := ⟨36, [(.slice (some ⟨0, 0, none⟩) 4 4611686018427387908)], [.cells [(.int .i64 (4)), (.int .i64 (0)), (.int .i64 (8)), (.int .i64 (0)), (.int .i64 (8)), (.int .i64 (4)), (.int .i64 (4)), (.int .i64 (4))] 96 false], (.int .i64 (32)), []⟩

theorem e34_ok : e34.Ok Tryz.prog := Reader.okC (n := 400) (k := e34) pok (orT_sound (tabC_sound ok_nil) leaf2_ok) [] (by kernel_rfl) (by kernel_rfl) (by kernel_rfl)

/- leadlight/web.doubled -/
def e35 : Reader := ⟨36, [(.slice (some ⟨0, 0, none⟩) 6 4611686018427387910)], [.cells [(.int .i64 (4)), (.int .i64 (0)), (.int .i64 (0)), (.int .i64 (0)), (.int .i64 (0)), (.int .i64 (4)), (.int .i64 (4)), (.int .i64 (4)), (.int .i64 (8)), (.int .i64 (4)), (.int .i64 (8)), (.int .i64 (0))] 96 false], (.int .i64 (-64)), []⟩

theorem e35_ok : e35.Ok Tryz.prog := Reader.okC (n := 400) (k := e35) pok (orT_sound (tabC_sound ok_nil) leaf2_ok) [] (by kernel_rfl) (by kernel_rfl) (by kernel_rfl)

/- leadlight/web.comparePoints -/
def e36 : Reader := ⟨42, [(.agg #[(.int .i64 (0)), (.int .i64 (4))]), (.agg #[(.int .i64 (0)), (.int .i64 (0))])], [], (.int .i64 (1)), []⟩

theorem e36_ok : e36.Ok Tryz.prog := Reader.okC (n := 400) (k := e36) pok (orT_sound (tabC_sound ok_nil) leaf2_ok) [] (by kernel_rfl) (by kernel_rfl) (by kernel_rfl)

/- leadlight/web.comparePoints -/
def e37 : Reader := ⟨42, [(.agg #[(.int .i64 (4)), (.int .i64 (4))]), (.agg #[(.int .i64 (0)), (.int .i64 (0))])], [], (.int .i64 (1)), []⟩

theorem e37_ok : e37.Ok Tryz.prog := Reader.okC (n := 400) (k := e37) pok (orT_sound (tabC_sound ok_nil) leaf2_ok) [] (by kernel_rfl) (by kernel_rfl) (by kernel_rfl)

/- slices.MinFunc[[]leadlight/api.Point,leadlight/api.Point] -/
def e38 : Reader := ⟨78, [(.slice (some ⟨0, 0, none⟩) 4 4611686018427387908), (.func (.func 42) #[] #[])], [.cells [(.int .i64 (0)), (.int .i64 (0)), (.int .i64 (4)), (.int .i64 (0)), (.int .i64 (4)), (.int .i64 (4)), (.int .i64 (0)), (.int .i64 (4))] 96 false], (.agg #[(.int .i64 (0)), (.int .i64 (0))]), []⟩

theorem e38_ok : e38.Ok Tryz.prog := Reader.okC (n := 400) (k := e38) pok (orT_sound (tabC_sound (ok_cons e27_ok (ok_cons e37_ok (ok_cons e36_ok ok_nil)))) leaf2_ok) [] (by kernel_rfl) (by kernel_rfl) (by kernel_rfl)

/- leadlight/web.corners -/
def e39 : Reader := ⟨77, [(.slice (some ⟨0, 0, none⟩) 4 4611686018427387908)], [.cells [(.int .i64 (0)), (.int .i64 (0)), (.int .i64 (4)), (.int .i64 (0)), (.int .i64 (4)), (.int .i64 (4)), (.int .i64 (0)), (.int .i64 (4))] 96 false], (.slice (some ⟨1, 0, none⟩) 4 4611686018427387908), [.cells [(.int .i64 (0)), (.int .i64 (1)), (.int .i64 (2)), (.int .i64 (3))] 3 true]⟩

theorem e39_ok : e39.Ok Tryz.prog := Reader.okC (n := 400) (k := e39) pok (orT_sound (tabC_sound ok_nil) leaf2_ok) [12] (by kernel_rfl) (by kernel_rfl) (by kernel_rfl)

/- leadlight/web.doubled -/
def e40 : Reader := ⟨36, [(.slice (some ⟨0, 0, none⟩) 4 4611686018427387908)], [.cells [(.int .i64 (0)), (.int .i64 (0)), (.int .i64 (4)), (.int .i64 (0)), (.int .i64 (4)), (.int .i64 (4)), (.int .i64 (0)), (.int .i64 (4))] 96 false], (.int .i64 (32)), []⟩

theorem e40_ok : e40.Ok Tryz.prog := Reader.okC (n := 400) (k := e40) pok (orT_sound (tabC_sound ok_nil) leaf2_ok) [] (by kernel_rfl) (by kernel_rfl) (by kernel_rfl)

/- slices.BinarySearchFunc[[]leadlight/api.Joint,leadlight/api.Joint,int] -/
def e41 : Reader := ⟨165, [(.slice (some ⟨0, 0, none⟩) 6 6), (.int .i64 (1)), (.func (.func 166) #[] #[(.pointer (some ⟨1, 0, none⟩))])], [.cells [(.int .i64 (1)), (.int .i64 (0)), (.int .i64 (0)), (.int .i64 (2)), (.int .i64 (4)), (.int .i64 (0)), (.int .i64 (3)), (.int .i64 (8)), (.int .i64 (0)), (.int .i64 (4)), (.int .i64 (8)), (.int .i64 (4)), (.int .i64 (5)), (.int .i64 (4)), (.int .i64 (4)), (.int .i64 (6)), (.int .i64 (0)), (.int .i64 (4))] 98 false, .cells [(.func (.func 104) #[] #[])] 180 false], (.tuple #[(.int .i64 (0)), (.bool true)]), []⟩

theorem e41_ok : e41.Ok Tryz.prog := Reader.okC (n := 400) (k := e41) pok (orT_sound (tabC_sound ok_nil) leaf2_ok) [] (by kernel_rfl) (by kernel_rfl) (by kernel_rfl)

/- slices.insertionSortOrdered[int] -/
def e42 : Reader := ⟨184, [(.slice (some ⟨0, 0, none⟩) 6 4611686018427387910), (.int .i64 (0)), (.int .i64 (6))], [.cells [(.int .i64 (1)), (.int .i64 (2)), (.int .i64 (3)), (.int .i64 (4)), (.int .i64 (5)), (.int .i64 (6))] 3 false], (.tuple #[]), []⟩

theorem e42_ok : e42.Ok Tryz.prog := Reader.okC (n := 400) (k := e42) pok (orT_sound (tabC_sound ok_nil) leaf2_ok) [] (by kernel_rfl) (by kernel_rfl) (by kernel_rfl)

/- slices.BinarySearchFunc[[]leadlight/api.Joint,leadlight/api.Joint,int] -/
def e43 : Reader := ⟨165, [(.slice (some ⟨0, 0, none⟩) 6 6), (.int .i64 (5)), (.func (.func 166) #[] #[(.pointer (some ⟨1, 0, none⟩))])], [.cells [(.int .i64 (1)), (.int .i64 (0)), (.int .i64 (0)), (.int .i64 (2)), (.int .i64 (4)), (.int .i64 (0)), (.int .i64 (3)), (.int .i64 (8)), (.int .i64 (0)), (.int .i64 (4)), (.int .i64 (8)), (.int .i64 (4)), (.int .i64 (5)), (.int .i64 (4)), (.int .i64 (4)), (.int .i64 (6)), (.int .i64 (0)), (.int .i64 (4))] 98 false, .cells [(.func (.func 104) #[] #[])] 180 false], (.tuple #[(.int .i64 (4)), (.bool true)]), []⟩

theorem e43_ok : e43.Ok Tryz.prog := Reader.okC (n := 400) (k := e43) pok (orT_sound (tabC_sound ok_nil) leaf2_ok) [] (by kernel_rfl) (by kernel_rfl) (by kernel_rfl)

/- slices.BinarySearchFunc[[]leadlight/api.Lead,leadlight/api.Lead,int] -/
def e44 : Reader := ⟨163, [(.slice (some ⟨0, 0, none⟩) 7 7), (.int .i64 (7)), (.func (.func 164) #[] #[(.pointer (some ⟨1, 0, none⟩))])], [.cells [(.int .i64 (1)), (.int .i64 (1)), (.int .i64 (2)), (.int .i64 (0)), (.int .i64 (2)), (.int .i64 (2)), (.int .i64 (1)), (.int .i64 (3)), (.int .i64 (2)), (.int .i64 (2)), (.int .i64 (3)), (.int .i64 (0)), (.int .i64 (2)), (.int .i64 (2)), (.int .i64 (1)), (.int .i64 (3)), (.int .i64 (3)), (.int .i64 (3)), (.int .i64 (4)), (.int .i64 (0)), (.int .i64 (2)), (.int .i64 (2)), (.int .i64 (1)), (.int .i64 (3)), (.int .i64 (4)), (.int .i64 (4)), (.int .i64 (5)), (.int .i64 (0)), (.int .i64 (2)), (.int .i64 (2)), (.int .i64 (1)), (.int .i64 (3)), (.int .i64 (5)), (.int .i64 (5)), (.int .i64 (6)), (.int .i64 (0)), (.int .i64 (2)), (.int .i64 (2)), (.int .i64 (1)), (.int .i64 (3)), (.int .i64 (6)), (.int .i64 (6)), (.int .i64 (1)), (.int .i64 (0)), (.int .i64 (2)), (.int .i64 (2)), (.int .i64 (1)), (.int .i64 (3)), (.int .i64 (7)), (.int .i64 (2)), (.int .i64 (5)), (.int .i64 (0)), (.int .i64 (2)), (.int .i64 (2)), (.int .i64 (1)), (.int .i64 (3))] 100 false, .cells [(.func (.func 102) #[] #[])] 177 false], (.tuple #[(.int .i64 (6)), (.bool true)]), []⟩

theorem e44_ok : e44.Ok Tryz.prog := Reader.okC (n := 400) (k := e44) pok (orT_sound (tabC_sound ok_nil) leaf2_ok) [] (by kernel_rfl) (by kernel_rfl) (by kernel_rfl)

/- slices.BinarySearchFunc[[]leadlight/api.Joint,leadlight/api.Joint,int] -/
def e45 : Reader := ⟨165, [(.slice (some ⟨0, 0, none⟩) 6 6), (.int .i64 (2)), (.func (.func 166) #[] #[(.pointer (some ⟨1, 0, none⟩))])], [.cells [(.int .i64 (1)), (.int .i64 (0)), (.int .i64 (0)), (.int .i64 (2)), (.int .i64 (4)), (.int .i64 (0)), (.int .i64 (3)), (.int .i64 (8)), (.int .i64 (0)), (.int .i64 (4)), (.int .i64 (8)), (.int .i64 (4)), (.int .i64 (5)), (.int .i64 (4)), (.int .i64 (4)), (.int .i64 (6)), (.int .i64 (0)), (.int .i64 (4))] 98 false, .cells [(.func (.func 104) #[] #[])] 180 false], (.tuple #[(.int .i64 (1)), (.bool true)]), []⟩

theorem e45_ok : e45.Ok Tryz.prog := Reader.okC (n := 400) (k := e45) pok (orT_sound (tabC_sound ok_nil) leaf2_ok) [] (by kernel_rfl) (by kernel_rfl) (by kernel_rfl)

/- slices.BinarySearchFunc[[]leadlight/api.Lead,leadlight/api.Lead,int] -/
def e46 : Reader := ⟨163, [(.slice (some ⟨0, 0, none⟩) 7 7), (.int .i64 (6)), (.func (.func 164) #[] #[(.pointer (some ⟨1, 0, none⟩))])], [.cells [(.int .i64 (1)), (.int .i64 (1)), (.int .i64 (2)), (.int .i64 (0)), (.int .i64 (2)), (.int .i64 (2)), (.int .i64 (1)), (.int .i64 (3)), (.int .i64 (2)), (.int .i64 (2)), (.int .i64 (3)), (.int .i64 (0)), (.int .i64 (2)), (.int .i64 (2)), (.int .i64 (1)), (.int .i64 (3)), (.int .i64 (3)), (.int .i64 (3)), (.int .i64 (4)), (.int .i64 (0)), (.int .i64 (2)), (.int .i64 (2)), (.int .i64 (1)), (.int .i64 (3)), (.int .i64 (4)), (.int .i64 (4)), (.int .i64 (5)), (.int .i64 (0)), (.int .i64 (2)), (.int .i64 (2)), (.int .i64 (1)), (.int .i64 (3)), (.int .i64 (5)), (.int .i64 (5)), (.int .i64 (6)), (.int .i64 (0)), (.int .i64 (2)), (.int .i64 (2)), (.int .i64 (1)), (.int .i64 (3)), (.int .i64 (6)), (.int .i64 (6)), (.int .i64 (1)), (.int .i64 (0)), (.int .i64 (2)), (.int .i64 (2)), (.int .i64 (1)), (.int .i64 (3)), (.int .i64 (7)), (.int .i64 (2)), (.int .i64 (5)), (.int .i64 (0)), (.int .i64 (2)), (.int .i64 (2)), (.int .i64 (1)), (.int .i64 (3))] 100 false, .cells [(.func (.func 102) #[] #[])] 177 false], (.tuple #[(.int .i64 (5)), (.bool true)]), []⟩

theorem e46_ok : e46.Ok Tryz.prog := Reader.okC (n := 400) (k := e46) pok (orT_sound (tabC_sound ok_nil) leaf2_ok) [] (by kernel_rfl) (by kernel_rfl) (by kernel_rfl)

/- slices.BinarySearchFunc[[]leadlight/api.Joint,leadlight/api.Joint,int] -/
def e47 : Reader := ⟨165, [(.slice (some ⟨0, 0, none⟩) 6 6), (.int .i64 (6)), (.func (.func 166) #[] #[(.pointer (some ⟨1, 0, none⟩))])], [.cells [(.int .i64 (1)), (.int .i64 (0)), (.int .i64 (0)), (.int .i64 (2)), (.int .i64 (4)), (.int .i64 (0)), (.int .i64 (3)), (.int .i64 (8)), (.int .i64 (0)), (.int .i64 (4)), (.int .i64 (8)), (.int .i64 (4)), (.int .i64 (5)), (.int .i64 (4)), (.int .i64 (4)), (.int .i64 (6)), (.int .i64 (0)), (.int .i64 (4))] 98 false, .cells [(.func (.func 104) #[] #[])] 180 false], (.tuple #[(.int .i64 (5)), (.bool true)]), []⟩

theorem e47_ok : e47.Ok Tryz.prog := Reader.okC (n := 400) (k := e47) pok (orT_sound (tabC_sound ok_nil) leaf2_ok) [] (by kernel_rfl) (by kernel_rfl) (by kernel_rfl)

/- slices.BinarySearchFunc[[]leadlight/api.Lead,leadlight/api.Lead,int] -/
def e48 : Reader := ⟨163, [(.slice (some ⟨0, 0, none⟩) 7 7), (.int .i64 (5)), (.func (.func 164) #[] #[(.pointer (some ⟨1, 0, none⟩))])], [.cells [(.int .i64 (1)), (.int .i64 (1)), (.int .i64 (2)), (.int .i64 (0)), (.int .i64 (2)), (.int .i64 (2)), (.int .i64 (1)), (.int .i64 (3)), (.int .i64 (2)), (.int .i64 (2)), (.int .i64 (3)), (.int .i64 (0)), (.int .i64 (2)), (.int .i64 (2)), (.int .i64 (1)), (.int .i64 (3)), (.int .i64 (3)), (.int .i64 (3)), (.int .i64 (4)), (.int .i64 (0)), (.int .i64 (2)), (.int .i64 (2)), (.int .i64 (1)), (.int .i64 (3)), (.int .i64 (4)), (.int .i64 (4)), (.int .i64 (5)), (.int .i64 (0)), (.int .i64 (2)), (.int .i64 (2)), (.int .i64 (1)), (.int .i64 (3)), (.int .i64 (5)), (.int .i64 (5)), (.int .i64 (6)), (.int .i64 (0)), (.int .i64 (2)), (.int .i64 (2)), (.int .i64 (1)), (.int .i64 (3)), (.int .i64 (6)), (.int .i64 (6)), (.int .i64 (1)), (.int .i64 (0)), (.int .i64 (2)), (.int .i64 (2)), (.int .i64 (1)), (.int .i64 (3)), (.int .i64 (7)), (.int .i64 (2)), (.int .i64 (5)), (.int .i64 (0)), (.int .i64 (2)), (.int .i64 (2)), (.int .i64 (1)), (.int .i64 (3))] 100 false, .cells [(.func (.func 102) #[] #[])] 177 false], (.tuple #[(.int .i64 (4)), (.bool true)]), []⟩

theorem e48_ok : e48.Ok Tryz.prog := Reader.okC (n := 400) (k := e48) pok (orT_sound (tabC_sound ok_nil) leaf2_ok) [] (by kernel_rfl) (by kernel_rfl) (by kernel_rfl)

/- slices.BinarySearchFunc[[]leadlight/api.Lead,leadlight/api.Lead,int] -/
def e49 : Reader := ⟨163, [(.slice (some ⟨0, 0, none⟩) 7 7), (.int .i64 (4)), (.func (.func 164) #[] #[(.pointer (some ⟨1, 0, none⟩))])], [.cells [(.int .i64 (1)), (.int .i64 (1)), (.int .i64 (2)), (.int .i64 (0)), (.int .i64 (2)), (.int .i64 (2)), (.int .i64 (1)), (.int .i64 (3)), (.int .i64 (2)), (.int .i64 (2)), (.int .i64 (3)), (.int .i64 (0)), (.int .i64 (2)), (.int .i64 (2)), (.int .i64 (1)), (.int .i64 (3)), (.int .i64 (3)), (.int .i64 (3)), (.int .i64 (4)), (.int .i64 (0)), (.int .i64 (2)), (.int .i64 (2)), (.int .i64 (1)), (.int .i64 (3)), (.int .i64 (4)), (.int .i64 (4)), (.int .i64 (5)), (.int .i64 (0)), (.int .i64 (2)), (.int .i64 (2)), (.int .i64 (1)), (.int .i64 (3)), (.int .i64 (5)), (.int .i64 (5)), (.int .i64 (6)), (.int .i64 (0)), (.int .i64 (2)), (.int .i64 (2)), (.int .i64 (1)), (.int .i64 (3)), (.int .i64 (6)), (.int .i64 (6)), (.int .i64 (1)), (.int .i64 (0)), (.int .i64 (2)), (.int .i64 (2)), (.int .i64 (1)), (.int .i64 (3)), (.int .i64 (7)), (.int .i64 (2)), (.int .i64 (5)), (.int .i64 (0)), (.int .i64 (2)), (.int .i64 (2)), (.int .i64 (1)), (.int .i64 (3))] 100 false, .cells [(.func (.func 102) #[] #[])] 177 false], (.tuple #[(.int .i64 (3)), (.bool true)]), []⟩

theorem e49_ok : e49.Ok Tryz.prog := Reader.okC (n := 400) (k := e49) pok (orT_sound (tabC_sound ok_nil) leaf2_ok) [] (by kernel_rfl) (by kernel_rfl) (by kernel_rfl)

/- slices.BinarySearchFunc[[]leadlight/api.Joint,leadlight/api.Joint,int] -/
def e50 : Reader := ⟨165, [(.slice (some ⟨0, 0, none⟩) 6 6), (.int .i64 (4)), (.func (.func 166) #[] #[(.pointer (some ⟨1, 0, none⟩))])], [.cells [(.int .i64 (1)), (.int .i64 (0)), (.int .i64 (0)), (.int .i64 (2)), (.int .i64 (4)), (.int .i64 (0)), (.int .i64 (3)), (.int .i64 (8)), (.int .i64 (0)), (.int .i64 (4)), (.int .i64 (8)), (.int .i64 (4)), (.int .i64 (5)), (.int .i64 (4)), (.int .i64 (4)), (.int .i64 (6)), (.int .i64 (0)), (.int .i64 (4))] 98 false, .cells [(.func (.func 104) #[] #[])] 180 false], (.tuple #[(.int .i64 (3)), (.bool true)]), []⟩

theorem e50_ok : e50.Ok Tryz.prog := Reader.okC (n := 400) (k := e50) pok (orT_sound (tabC_sound ok_nil) leaf2_ok) [] (by kernel_rfl) (by kernel_rfl) (by kernel_rfl)

/- slices.BinarySearchFunc[[]leadlight/api.Lead,leadlight/api.Lead,int] -/
def e51 : Reader := ⟨163, [(.slice (some ⟨0, 0, none⟩) 7 7), (.int .i64 (3)), (.func (.func 164) #[] #[(.pointer (some ⟨1, 0, none⟩))])], [.cells [(.int .i64 (1)), (.int .i64 (1)), (.int .i64 (2)), (.int .i64 (0)), (.int .i64 (2)), (.int .i64 (2)), (.int .i64 (1)), (.int .i64 (3)), (.int .i64 (2)), (.int .i64 (2)), (.int .i64 (3)), (.int .i64 (0)), (.int .i64 (2)), (.int .i64 (2)), (.int .i64 (1)), (.int .i64 (3)), (.int .i64 (3)), (.int .i64 (3)), (.int .i64 (4)), (.int .i64 (0)), (.int .i64 (2)), (.int .i64 (2)), (.int .i64 (1)), (.int .i64 (3)), (.int .i64 (4)), (.int .i64 (4)), (.int .i64 (5)), (.int .i64 (0)), (.int .i64 (2)), (.int .i64 (2)), (.int .i64 (1)), (.int .i64 (3)), (.int .i64 (5)), (.int .i64 (5)), (.int .i64 (6)), (.int .i64 (0)), (.int .i64 (2)), (.int .i64 (2)), (.int .i64 (1)), (.int .i64 (3)), (.int .i64 (6)), (.int .i64 (6)), (.int .i64 (1)), (.int .i64 (0)), (.int .i64 (2)), (.int .i64 (2)), (.int .i64 (1)), (.int .i64 (3)), (.int .i64 (7)), (.int .i64 (2)), (.int .i64 (5)), (.int .i64 (0)), (.int .i64 (2)), (.int .i64 (2)), (.int .i64 (1)), (.int .i64 (3))] 100 false, .cells [(.func (.func 102) #[] #[])] 177 false], (.tuple #[(.int .i64 (2)), (.bool true)]), []⟩

theorem e51_ok : e51.Ok Tryz.prog := Reader.okC (n := 400) (k := e51) pok (orT_sound (tabC_sound ok_nil) leaf2_ok) [] (by kernel_rfl) (by kernel_rfl) (by kernel_rfl)

/- slices.BinarySearchFunc[[]leadlight/api.Joint,leadlight/api.Joint,int] -/
def e52 : Reader := ⟨165, [(.slice (some ⟨0, 0, none⟩) 6 6), (.int .i64 (3)), (.func (.func 166) #[] #[(.pointer (some ⟨1, 0, none⟩))])], [.cells [(.int .i64 (1)), (.int .i64 (0)), (.int .i64 (0)), (.int .i64 (2)), (.int .i64 (4)), (.int .i64 (0)), (.int .i64 (3)), (.int .i64 (8)), (.int .i64 (0)), (.int .i64 (4)), (.int .i64 (8)), (.int .i64 (4)), (.int .i64 (5)), (.int .i64 (4)), (.int .i64 (4)), (.int .i64 (6)), (.int .i64 (0)), (.int .i64 (4))] 98 false, .cells [(.func (.func 104) #[] #[])] 180 false], (.tuple #[(.int .i64 (2)), (.bool true)]), []⟩

theorem e52_ok : e52.Ok Tryz.prog := Reader.okC (n := 400) (k := e52) pok (orT_sound (tabC_sound ok_nil) leaf2_ok) [] (by kernel_rfl) (by kernel_rfl) (by kernel_rfl)

/- slices.BinarySearchFunc[[]leadlight/api.Lead,leadlight/api.Lead,int] -/
def e53 : Reader := ⟨163, [(.slice (some ⟨0, 0, none⟩) 7 7), (.int .i64 (2)), (.func (.func 164) #[] #[(.pointer (some ⟨1, 0, none⟩))])], [.cells [(.int .i64 (1)), (.int .i64 (1)), (.int .i64 (2)), (.int .i64 (0)), (.int .i64 (2)), (.int .i64 (2)), (.int .i64 (1)), (.int .i64 (3)), (.int .i64 (2)), (.int .i64 (2)), (.int .i64 (3)), (.int .i64 (0)), (.int .i64 (2)), (.int .i64 (2)), (.int .i64 (1)), (.int .i64 (3)), (.int .i64 (3)), (.int .i64 (3)), (.int .i64 (4)), (.int .i64 (0)), (.int .i64 (2)), (.int .i64 (2)), (.int .i64 (1)), (.int .i64 (3)), (.int .i64 (4)), (.int .i64 (4)), (.int .i64 (5)), (.int .i64 (0)), (.int .i64 (2)), (.int .i64 (2)), (.int .i64 (1)), (.int .i64 (3)), (.int .i64 (5)), (.int .i64 (5)), (.int .i64 (6)), (.int .i64 (0)), (.int .i64 (2)), (.int .i64 (2)), (.int .i64 (1)), (.int .i64 (3)), (.int .i64 (6)), (.int .i64 (6)), (.int .i64 (1)), (.int .i64 (0)), (.int .i64 (2)), (.int .i64 (2)), (.int .i64 (1)), (.int .i64 (3)), (.int .i64 (7)), (.int .i64 (2)), (.int .i64 (5)), (.int .i64 (0)), (.int .i64 (2)), (.int .i64 (2)), (.int .i64 (1)), (.int .i64 (3))] 100 false, .cells [(.func (.func 102) #[] #[])] 177 false], (.tuple #[(.int .i64 (1)), (.bool true)]), []⟩

theorem e53_ok : e53.Ok Tryz.prog := Reader.okC (n := 400) (k := e53) pok (orT_sound (tabC_sound ok_nil) leaf2_ok) [] (by kernel_rfl) (by kernel_rfl) (by kernel_rfl)

/- slices.BinarySearchFunc[[]leadlight/api.Lead,leadlight/api.Lead,int] -/
def e54 : Reader := ⟨163, [(.slice (some ⟨0, 0, none⟩) 7 7), (.int .i64 (1)), (.func (.func 164) #[] #[(.pointer (some ⟨1, 0, none⟩))])], [.cells [(.int .i64 (1)), (.int .i64 (1)), (.int .i64 (2)), (.int .i64 (0)), (.int .i64 (2)), (.int .i64 (2)), (.int .i64 (1)), (.int .i64 (3)), (.int .i64 (2)), (.int .i64 (2)), (.int .i64 (3)), (.int .i64 (0)), (.int .i64 (2)), (.int .i64 (2)), (.int .i64 (1)), (.int .i64 (3)), (.int .i64 (3)), (.int .i64 (3)), (.int .i64 (4)), (.int .i64 (0)), (.int .i64 (2)), (.int .i64 (2)), (.int .i64 (1)), (.int .i64 (3)), (.int .i64 (4)), (.int .i64 (4)), (.int .i64 (5)), (.int .i64 (0)), (.int .i64 (2)), (.int .i64 (2)), (.int .i64 (1)), (.int .i64 (3)), (.int .i64 (5)), (.int .i64 (5)), (.int .i64 (6)), (.int .i64 (0)), (.int .i64 (2)), (.int .i64 (2)), (.int .i64 (1)), (.int .i64 (3)), (.int .i64 (6)), (.int .i64 (6)), (.int .i64 (1)), (.int .i64 (0)), (.int .i64 (2)), (.int .i64 (2)), (.int .i64 (1)), (.int .i64 (3)), (.int .i64 (7)), (.int .i64 (2)), (.int .i64 (5)), (.int .i64 (0)), (.int .i64 (2)), (.int .i64 (2)), (.int .i64 (1)), (.int .i64 (3))] 100 false, .cells [(.func (.func 102) #[] #[])] 177 false], (.tuple #[(.int .i64 (0)), (.bool true)]), []⟩

theorem e54_ok : e54.Ok Tryz.prog := Reader.okC (n := 400) (k := e54) pok (orT_sound (tabC_sound ok_nil) leaf2_ok) [] (by kernel_rfl) (by kernel_rfl) (by kernel_rfl)

/- leadlight/web.collide -/
def e55 : Reader := ⟨162, [(.agg #[(.int .i64 (7)), (.int .i64 (2)), (.int .i64 (5)), (.int .i64 (0)), (.int .i64 (2)), (.int .i64 (2)), (.int .i64 (1)), (.int .i64 (3)), (.int .i64 (4)), (.int .i64 (0)), (.int .i64 (4)), (.int .i64 (4))]), (.agg #[(.int .i64 (5)), (.int .i64 (5)), (.int .i64 (6)), (.int .i64 (0)), (.int .i64 (2)), (.int .i64 (2)), (.int .i64 (1)), (.int .i64 (3)), (.int .i64 (4)), (.int .i64 (4)), (.int .i64 (0)), (.int .i64 (4))])], [], (.bool false), []⟩

theorem e55_ok : e55.Ok Tryz.prog := Reader.okC (n := 400) (k := e55) pok (orT_sound (tabC_sound ok_nil) leaf2_ok) [] (by kernel_rfl) (by kernel_rfl) (by kernel_rfl)

/- leadlight/web.collide -/
def e56 : Reader := ⟨162, [(.agg #[(.int .i64 (7)), (.int .i64 (2)), (.int .i64 (5)), (.int .i64 (0)), (.int .i64 (2)), (.int .i64 (2)), (.int .i64 (1)), (.int .i64 (3)), (.int .i64 (4)), (.int .i64 (0)), (.int .i64 (4)), (.int .i64 (4))]), (.agg #[(.int .i64 (4)), (.int .i64 (4)), (.int .i64 (5)), (.int .i64 (0)), (.int .i64 (2)), (.int .i64 (2)), (.int .i64 (1)), (.int .i64 (3)), (.int .i64 (8)), (.int .i64 (4)), (.int .i64 (4)), (.int .i64 (4))])], [], (.bool false), []⟩

theorem e56_ok : e56.Ok Tryz.prog := Reader.okC (n := 400) (k := e56) pok (orT_sound (tabC_sound ok_nil) leaf2_ok) [] (by kernel_rfl) (by kernel_rfl) (by kernel_rfl)

/- leadlight/web.collide -/
def e57 : Reader := ⟨162, [(.agg #[(.int .i64 (7)), (.int .i64 (2)), (.int .i64 (5)), (.int .i64 (0)), (.int .i64 (2)), (.int .i64 (2)), (.int .i64 (1)), (.int .i64 (3)), (.int .i64 (4)), (.int .i64 (0)), (.int .i64 (4)), (.int .i64 (4))]), (.agg #[(.int .i64 (2)), (.int .i64 (2)), (.int .i64 (3)), (.int .i64 (0)), (.int .i64 (2)), (.int .i64 (2)), (.int .i64 (1)), (.int .i64 (3)), (.int .i64 (4)), (.int .i64 (0)), (.int .i64 (8)), (.int .i64 (0))])], [], (.bool false), []⟩

theorem e57_ok : e57.Ok Tryz.prog := Reader.okC (n := 400) (k := e57) pok (orT_sound (tabC_sound ok_nil) leaf2_ok) [] (by kernel_rfl) (by kernel_rfl) (by kernel_rfl)

/- leadlight/web.collide -/
def e58 : Reader := ⟨162, [(.agg #[(.int .i64 (7)), (.int .i64 (2)), (.int .i64 (5)), (.int .i64 (0)), (.int .i64 (2)), (.int .i64 (2)), (.int .i64 (1)), (.int .i64 (3)), (.int .i64 (4)), (.int .i64 (0)), (.int .i64 (4)), (.int .i64 (4))]), (.agg #[(.int .i64 (1)), (.int .i64 (1)), (.int .i64 (2)), (.int .i64 (0)), (.int .i64 (2)), (.int .i64 (2)), (.int .i64 (1)), (.int .i64 (3)), (.int .i64 (0)), (.int .i64 (0)), (.int .i64 (4)), (.int .i64 (0))])], [], (.bool false), []⟩

theorem e58_ok : e58.Ok Tryz.prog := Reader.okC (n := 400) (k := e58) pok (orT_sound (tabC_sound ok_nil) leaf2_ok) [] (by kernel_rfl) (by kernel_rfl) (by kernel_rfl)

/- leadlight/web.collide -/
def e59 : Reader := ⟨162, [(.agg #[(.int .i64 (6)), (.int .i64 (6)), (.int .i64 (1)), (.int .i64 (0)), (.int .i64 (2)), (.int .i64 (2)), (.int .i64 (1)), (.int .i64 (3)), (.int .i64 (0)), (.int .i64 (4)), (.int .i64 (0)), (.int .i64 (0))]), (.agg #[(.int .i64 (5)), (.int .i64 (5)), (.int .i64 (6)), (.int .i64 (0)), (.int .i64 (2)), (.int .i64 (2)), (.int .i64 (1)), (.int .i64 (3)), (.int .i64 (4)), (.int .i64 (4)), (.int .i64 (0)), (.int .i64 (4))])], [], (.bool false), []⟩

theorem e59_ok : e59.Ok Tryz.prog := Reader.okC (n := 400) (k := e59) pok (orT_sound (tabC_sound ok_nil) leaf2_ok) [] (by kernel_rfl) (by kernel_rfl) (by kernel_rfl)

/- leadlight/web.collide -/
def e60 : Reader := ⟨162, [(.agg #[(.int .i64 (6)), (.int .i64 (6)), (.int .i64 (1)), (.int .i64 (0)), (.int .i64 (2)), (.int .i64 (2)), (.int .i64 (1)), (.int .i64 (3)), (.int .i64 (0)), (.int .i64 (4)), (.int .i64 (0)), (.int .i64 (0))]), (.agg #[(.int .i64 (1)), (.int .i64 (1)), (.int .i64 (2)), (.int .i64 (0)), (.int .i64 (2)), (.int .i64 (2)), (.int .i64 (1)), (.int .i64 (3)), (.int .i64 (0)), (.int .i64 (0)), (.int .i64 (4)), (.int .i64 (0))])], [], (.bool false), []⟩

theorem e60_ok : e60.Ok Tryz.prog := Reader.okC (n := 400) (k := e60) pok (orT_sound (tabC_sound ok_nil) leaf2_ok) [] (by kernel_rfl) (by kernel_rfl) (by kernel_rfl)

/- leadlight/web.collide -/
def e61 : Reader := ⟨162, [(.agg #[(.int .i64 (5)), (.int .i64 (5)), (.int .i64 (6)), (.int .i64 (0)), (.int .i64 (2)), (.int .i64 (2)), (.int .i64 (1)), (.int .i64 (3)), (.int .i64 (4)), (.int .i64 (4)), (.int .i64 (0)), (.int .i64 (4))]), (.agg #[(.int .i64 (4)), (.int .i64 (4)), (.int .i64 (5)), (.int .i64 (0)), (.int .i64 (2)), (.int .i64 (2)), (.int .i64 (1)), (.int .i64 (3)), (.int .i64 (8)), (.int .i64 (4)), (.int .i64 (4)), (.int .i64 (4))])], [], (.bool false), []⟩

theorem e61_ok : e61.Ok Tryz.prog := Reader.okC (n := 400) (k := e61) pok (orT_sound (tabC_sound ok_nil) leaf2_ok) [] (by kernel_rfl) (by kernel_rfl) (by kernel_rfl)

/- leadlight/web.collide -/
def e62 : Reader := ⟨162, [(.agg #[(.int .i64 (4)), (.int .i64 (4)), (.int .i64 (5)), (.int .i64 (0)), (.int .i64 (2)), (.int .i64 (2)), (.int .i64 (1)), (.int .i64 (3)), (.int .i64 (8)), (.int .i64 (4)), (.int .i64 (4)), (.int .i64 (4))]), (.agg #[(.int .i64 (3)), (.int .i64 (3)), (.int .i64 (4)), (.int .i64 (0)), (.int .i64 (2)), (.int .i64 (2)), (.int .i64 (1)), (.int .i64 (3)), (.int .i64 (8)), (.int .i64 (0)), (.int .i64 (8)), (.int .i64 (4))])], [], (.bool false), []⟩

theorem e62_ok : e62.Ok Tryz.prog := Reader.okC (n := 400) (k := e62) pok (orT_sound (tabC_sound ok_nil) leaf2_ok) [] (by kernel_rfl) (by kernel_rfl) (by kernel_rfl)

/- leadlight/web.collide -/
def e63 : Reader := ⟨162, [(.agg #[(.int .i64 (3)), (.int .i64 (3)), (.int .i64 (4)), (.int .i64 (0)), (.int .i64 (2)), (.int .i64 (2)), (.int .i64 (1)), (.int .i64 (3)), (.int .i64 (8)), (.int .i64 (0)), (.int .i64 (8)), (.int .i64 (4))]), (.agg #[(.int .i64 (2)), (.int .i64 (2)), (.int .i64 (3)), (.int .i64 (0)), (.int .i64 (2)), (.int .i64 (2)), (.int .i64 (1)), (.int .i64 (3)), (.int .i64 (4)), (.int .i64 (0)), (.int .i64 (8)), (.int .i64 (0))])], [], (.bool false), []⟩

theorem e63_ok : e63.Ok Tryz.prog := Reader.okC (n := 400) (k := e63) pok (orT_sound (tabC_sound ok_nil) leaf2_ok) [] (by kernel_rfl) (by kernel_rfl) (by kernel_rfl)

/- leadlight/web.collide -/
def e64 : Reader := ⟨162, [(.agg #[(.int .i64 (2)), (.int .i64 (2)), (.int .i64 (3)), (.int .i64 (0)), (.int .i64 (2)), (.int .i64 (2)), (.int .i64 (1)), (.int .i64 (3)), (.int .i64 (4)), (.int .i64 (0)), (.int .i64 (8)), (.int .i64 (0))]), (.agg #[(.int .i64 (1)), (.int .i64 (1)), (.int .i64 (2)), (.int .i64 (0)), (.int .i64 (2)), (.int .i64 (2)), (.int .i64 (1)), (.int .i64 (3)), (.int .i64 (0)), (.int .i64 (0)), (.int .i64 (4)), (.int .i64 (0))])], [], (.bool false), []⟩

theorem e64_ok : e64.Ok Tryz.prog := Reader.okC (n := 400) (k := e64) pok (orT_sound (tabC_sound ok_nil) leaf2_ok) [] (by kernel_rfl) (by kernel_rfl) (by kernel_rfl)

end Go.Proofs.YtkmcboincjohlaaGreat
