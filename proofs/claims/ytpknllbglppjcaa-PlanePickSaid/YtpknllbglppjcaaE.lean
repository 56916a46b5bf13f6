/- Calls that are known. -/
import Derived.Test.YtpknllbglppjcaaEA
import Derived.Test.YtpknllbglppjcaaAbsE
namespace Go.Proofs.Ytpknllbglppjcaa
open Go Go.RowKit Go.Proofs Go.Abs

/- leadlight/plane.freeDirection -/
def e0 : Reader := ⟨116, [(.slice (some ⟨107, 0, none⟩) 3 4611686018427387907)], [.dead, .dead, .dead, .dead, .dead, .dead, .dead, .dead, .dead, .dead, .dead, .dead, .dead, .dead, .dead, .dead, .dead, .dead, .dead, .dead, .dead, .dead, .dead, .dead, .dead, .dead, .dead, .dead, .dead, .dead, .dead, .dead, .dead, .dead, .dead, .dead, .dead, .dead, .dead, .dead, .dead, .dead, .dead, .dead, .dead, .dead, .dead, .dead, .dead, .dead, .dead, .dead, .dead, .dead, .dead, .dead, .dead, .dead, .dead, .dead, .dead, .dead, .dead, .dead, .dead, .dead, .dead, .dead, .dead, .dead, .dead, .dead, .dead, .dead, .dead, .dead, .dead, .dead, .dead, .dead, .dead, .dead, .dead, .dead, .dead, .dead, .dead, .dead, .dead, .dead, .dead, .dead, .dead, .dead, .dead, .dead, .dead, .dead, .dead, .dead, .dead, .dead, .dead, .dead, .dead, .dead, .dead, .cells [(.int .i64 (1)), (.int .i64 (0)), (.int .i64 (-1)), (.int .i64 (1)), (.int .i64 (-1)), (.int .i64 (-1))] 23 false], (.tuple #[(.agg #[(.int .i64 (0)), (.int .i64 (0))]), (.bool false)]), []⟩

theorem e0_ok : e0.Ok Try.prog := Reader.ok (n := 400) (k := e0) pok (orT_sound (tabR_sound ok_nil) leaf_ok) (by kernel_rfl) (by kernel_rfl) (by kernel_rfl)

/- leadlight/plane.freeDirection -/
def e1 : Reader := ⟨116, [(.slice (some ⟨85, 0, none⟩) 2 4611686018427387906)], [.dead, .dead, .dead, .dead, .dead, .dead, .dead, .dead, .dead, .dead, .dead, .dead, .dead, .dead, .dead, .dead, .dead, .dead, .dead, .dead, .dead, .dead, .dead, .dead, .dead, .dead, .dead, .dead, .dead, .dead, .dead, .dead, .dead, .dead, .dead, .dead, .dead, .dead, .dead, .dead, .dead, .dead, .dead, .dead, .dead, .dead, .dead, .dead, .dead, .dead, .dead, .dead, .dead, .dead, .dead, .dead, .dead, .dead, .dead, .dead, .dead, .dead, .dead, .dead, .dead, .dead, .dead, .dead, .dead, .dead, .dead, .dead, .dead, .dead, .dead, .dead, .dead, .dead, .dead, .dead, .dead, .dead, .dead, .dead, .dead, .cells [(.int .i64 (1)), (.int .i64 (0)), (.int .i64 (-1)), (.int .i64 (1))] 23 false], (.tuple #[(.agg #[(.int .i64 (0)), (.int .i64 (-1))]), (.bool true)]), []⟩

theorem e1_ok : e1.Ok Try.prog := Reader.ok (n := 400) (k := e1) pok (orT_sound (tabR_sound ok_nil) leaf_ok) (by kernel_rfl) (by kernel_rfl) (by kernel_rfl)

/- leadlight/plane.leastBlock -/
def e2 : Reader := ⟨117, [(.slice (some ⟨55, 0, none⟩) 3 3)], [.dead, .dead, .dead, .dead, .dead, .dead, .dead, .dead, .dead, .dead, .dead, .dead, .dead, .dead, .dead, .dead, .dead, .dead, .dead, .dead, .dead, .dead, .dead, .dead, .dead, .dead, .dead, .dead, .dead, .dead, .dead, .dead, .dead, .dead, .dead, .dead, .dead, .dead, .dead, .dead, .dead, .dead, .dead, .dead, .dead, .dead, .dead, .dead, .dead, .dead, .dead, .dead, .dead, .dead, .dead, .cells [(.int .i64 (1)), (.int .i64 (0)), (.int .i64 (-1)), (.int .i64 (1)), (.int .i64 (-1)), (.int .i64 (-1))] 23 false, .dead, .dead, .dead, .dead, .dead], (.slice (some ⟨110, 0, none⟩) 3 4611686018427387907), [.dead, .dead, .dead, .dead, .dead, .dead, .dead, .dead, .dead, .dead, .dead, .dead, .dead, .dead, .dead, .dead, .dead, .dead, .dead, .dead, .dead, .dead, .dead, .dead, .dead, .dead, .dead, .dead, .dead, .dead, .dead, .dead, .dead, .dead, .dead, .dead, .dead, .dead, .dead, .dead, .dead, .dead, .dead, .dead, .dead, .dead, .dead, .dead, .dead, .cells [(.int .i64 (0)), (.int .i64 (1)), (.int .i64 (2))] 3 true]⟩

theorem e2_ok : e2.Ok Try.prog := Reader.ok (n := 400) (k := e2) pok (orT_sound (tabR_sound (ok_cons e1_ok (ok_cons e0_ok ok_nil))) leaf_ok) (by kernel_rfl) (by kernel_rfl) (by kernel_rfl)

/- leadlight/plane.freeDirection -/
def e3 : Reader := ⟨116, [(.slice (some ⟨55, 0, none⟩) 3 3)], [.dead, .dead, .dead, .dead, .dead, .dead, .dead, .dead, .dead, .dead, .dead, .dead, .dead, .dead, .dead, .dead, .dead, .dead, .dead, .dead, .dead, .dead, .dead, .dead, .dead, .dead, .dead, .dead, .dead, .dead, .dead, .dead, .dead, .dead, .dead, .dead, .dead, .dead, .dead, .dead, .dead, .dead, .dead, .dead, .dead, .dead, .dead, .dead, .dead, .dead, .dead, .dead, .dead, .dead, .dead, .cells [(.int .i64 (1)), (.int .i64 (0)), (.int .i64 (-1)), (.int .i64 (1)), (.int .i64 (-1)), (.int .i64 (-1))] 23 false, .dead, .dead, .dead, .dead], (.tuple #[(.agg #[(.int .i64 (0)), (.int .i64 (0))]), (.bool false)]), []⟩

theorem e3_ok : e3.Ok Try.prog := Reader.ok (n := 400) (k := e3) pok (orT_sound (tabR_sound ok_nil) leaf_ok) (by kernel_rfl) (by kernel_rfl) (by kernel_rfl)

/- leadlight/plane.doubled -/
def e4 : Reader := ⟨93, [(.slice (some ⟨50, 0, none⟩) 3 4611686018427387907)], [.dead, .dead, .dead, .dead, .dead, .dead, .dead, .dead, .dead, .dead, .dead, .dead, .dead, .dead, .dead, .dead, .dead, .dead, .dead, .dead, .dead, .dead, .dead, .dead, .dead, .dead, .dead, .dead, .dead, .dead, .dead, .dead, .dead, .dead, .dead, .dead, .dead, .dead, .dead, .dead, .dead, .dead, .dead, .dead, .dead, .dead, .dead, .dead, .dead, .dead, .cells [(.int .i64 (4)), (.int .i64 (4)), (.int .i64 (2)), (.int .i64 (1)), (.int .i64 (0)), (.int .i64 (4))] 23 false], (.int .i64 (-12)), []⟩

theorem e4_ok : e4.Ok Try.prog := Reader.ok (n := 400) (k := e4) pok (orT_sound (tabR_sound ok_nil) leaf_ok) (by kernel_rfl) (by kernel_rfl) (by kernel_rfl)

/- leadlight/plane.leftward -/
def e5 : Reader := ⟨153, [(.slice (some ⟨11, 0, none⟩) 5 4611686018427387909)], [.dead, .dead, .dead, .dead, .dead, .dead, .dead, .dead, .dead, .dead, .dead, .cells [(.int .i64 (4)), (.int .i64 (4)), (.int .i64 (4)), (.int .i64 (0)), (.int .i64 (2)), (.int .i64 (1)), (.int .i64 (0)), (.int .i64 (4)), (.int .i64 (0)), (.int .i64 (0))] 23 false, .dead, .dead, .dead, .dead, .dead, .dead, .dead, .dead, .dead, .dead, .dead, .dead, .dead], (.slice (some ⟨37, 0, none⟩) 3 4611686018427387907), [.dead, .dead, .dead, .dead, .dead, .dead, .dead, .dead, .dead, .dead, .dead, .dead, .cells [(.int .i64 (4)), (.int .i64 (4)), (.int .i64 (0)), (.int .i64 (4)), (.int .i64 (0)), (.int .i64 (0))] 23 true]⟩

theorem e5_ok : e5.Ok Try.prog := Reader.ok (n := 400) (k := e5) pok (orT_sound (tabR_sound ok_nil) leaf_ok) (by kernel_rfl) (by kernel_rfl) (by kernel_rfl)

/- leadlight/plane.leftward -/
def e6 : Reader := ⟨153, [(.slice (some ⟨11, 0, none⟩) 5 4611686018427387909)], [.dead, .dead, .dead, .dead, .dead, .dead, .dead, .dead, .dead, .dead, .dead, .cells [(.int .i64 (0)), (.int .i64 (0)), (.int .i64 (0)), (.int .i64 (4)), (.int .i64 (2)), (.int .i64 (1)), (.int .i64 (4)), (.int .i64 (0)), (.int .i64 (4)), (.int .i64 (4))] 23 false], (.slice (some ⟨24, 0, none⟩) 3 4611686018427387907), [.dead, .dead, .dead, .dead, .dead, .dead, .dead, .dead, .dead, .dead, .dead, .dead, .cells [(.int .i64 (0)), (.int .i64 (0)), (.int .i64 (4)), (.int .i64 (0)), (.int .i64 (4)), (.int .i64 (4))] 23 true]⟩

theorem e6_ok : e6.Ok Try.prog := Reader.ok (n := 400) (k := e6) pok (orT_sound (tabR_sound ok_nil) leaf_ok) (by kernel_rfl) (by kernel_rfl) (by kernel_rfl)

/- leadlight/plane.hull -/
def e7 : Reader := ⟨124, [(.slice (some ⟨0, 0, none⟩) 5 5)], [.cells [(.int .i64 (0)), (.int .i64 (0)), (.int .i64 (4)), (.int .i64 (0)), (.int .i64 (4)), (.int .i64 (4)), (.int .i64 (2)), (.int .i64 (1)), (.int .i64 (0)), (.int .i64 (4))] 23 false, .dead, .dead, .dead, .dead, .dead, .dead, .dead, .dead, .dead], (.slice (some ⟨39, 0, none⟩) 4 4611686018427387908), [.dead, .dead, .dead, .dead, .dead, .dead, .dead, .dead, .dead, .dead, .dead, .dead, .dead, .dead, .dead, .dead, .dead, .dead, .dead, .dead, .dead, .dead, .dead, .dead, .dead, .dead, .dead, .dead, .dead, .cells [(.int .i64 (0)), (.int .i64 (0)), (.int .i64 (4)), (.int .i64 (0)), (.int .i64 (4)), (.int .i64 (4)), (.int .i64 (0)), (.int .i64 (4))] 23 true]⟩

theorem e7_ok : e7.Ok Try.prog := Reader.ok (n := 400) (k := e7) pok (orT_sound (tabR_sound (ok_cons e6_ok (ok_cons e5_ok ok_nil))) leaf_ok) (by kernel_rfl) (by kernel_rfl) (by kernel_rfl)

/- leadlight/plane.meet -/
def e8 : Reader := ⟨78, [(.agg #[(.int .i64 (2)), (.int .i64 (1))]), (.agg #[(.int .i64 (0)), (.int .i64 (4))]), (.agg #[(.int .i64 (0)), (.int .i64 (4))]), (.agg #[(.int .i64 (0)), (.int .i64 (0))])], [.dead, .dead], (.int .i64 (1)), []⟩

theorem e8_ok : e8.Ok Try.prog := Reader.ok (n := 400) (k := e8) pok (orT_sound (tabR_sound ok_nil) leaf_ok) (by kernel_rfl) (by kernel_rfl) (by kernel_rfl)

/- leadlight/plane.meet -/
def e9 : Reader := ⟨78, [(.agg #[(.int .i64 (4)), (.int .i64 (4))]), (.agg #[(.int .i64 (2)), (.int .i64 (1))]), (.agg #[(.int .i64 (0)), (.int .i64 (4))]), (.agg #[(.int .i64 (0)), (.int .i64 (0))])], [.dead, .dead], (.int .i64 (0)), []⟩

theorem e9_ok : e9.Ok Try.prog := Reader.ok (n := 400) (k := e9) pok (orT_sound (tabR_sound ok_nil) leaf_ok) (by kernel_rfl) (by kernel_rfl) (by kernel_rfl)

/- leadlight/plane.meet -/
def e10 : Reader := ⟨78, [(.agg #[(.int .i64 (4)), (.int .i64 (4))]), (.agg #[(.int .i64 (2)), (.int .i64 (1))]), (.agg #[(.int .i64 (2)), (.int .i64 (1))]), (.agg #[(.int .i64 (0)), (.int .i64 (4))])], [.dead, .dead], (.int .i64 (1)), []⟩

theorem e10_ok : e10.Ok Try.prog := Reader.ok (n := 400) (k := e10) pok (orT_sound (tabR_sound ok_nil) leaf_ok) (by kernel_rfl) (by kernel_rfl) (by kernel_rfl)

/- leadlight/plane.meet -/
def e11 : Reader := ⟨78, [(.agg #[(.int .i64 (4)), (.int .i64 (0))]), (.agg #[(.int .i64 (4)), (.int .i64 (4))]), (.agg #[(.int .i64 (0)), (.int .i64 (4))]), (.agg #[(.int .i64 (0)), (.int .i64 (0))])], [.dead, .dead], (.int .i64 (0)), []⟩

theorem e11_ok : e11.Ok Try.prog := Reader.ok (n := 400) (k := e11) pok (orT_sound (tabR_sound ok_nil) leaf_ok) (by kernel_rfl) (by kernel_rfl) (by kernel_rfl)

/- leadlight/plane.meet -/
def e12 : Reader := ⟨78, [(.agg #[(.int .i64 (4)), (.int .i64 (0))]), (.agg #[(.int .i64 (4)), (.int .i64 (4))]), (.agg #[(.int .i64 (2)), (.int .i64 (1))]), (.agg #[(.int .i64 (0)), (.int .i64 (4))])], [.dead, .dead], (.int .i64 (0)), []⟩

theorem e12_ok : e12.Ok Try.prog := Reader.ok (n := 400) (k := e12) pok (orT_sound (tabR_sound ok_nil) leaf_ok) (by kernel_rfl) (by kernel_rfl) (by kernel_rfl)

/- leadlight/plane.meet -/
def e13 : Reader := ⟨78, [(.agg #[(.int .i64 (4)), (.int .i64 (0))]), (.agg #[(.int .i64 (4)), (.int .i64 (4))]), (.agg #[(.int .i64 (4)), (.int .i64 (4))]), (.agg #[(.int .i64 (2)), (.int .i64 (1))])], [.dead, .dead], (.int .i64 (1)), []⟩

theorem e13_ok : e13.Ok Try.prog := Reader.ok (n := 400) (k := e13) pok (orT_sound (tabR_sound ok_nil) leaf_ok) (by kernel_rfl) (by kernel_rfl) (by kernel_rfl)

/- leadlight/plane.meet -/
def e14 : Reader := ⟨78, [(.agg #[(.int .i64 (0)), (.int .i64 (0))]), (.agg #[(.int .i64 (4)), (.int .i64 (0))]), (.agg #[(.int .i64 (0)), (.int .i64 (4))]), (.agg #[(.int .i64 (0)), (.int .i64 (0))])], [.dead, .dead], (.int .i64 (1)), []⟩

theorem e14_ok : e14.Ok Try.prog := Reader.ok (n := 400) (k := e14) pok (orT_sound (tabR_sound ok_nil) leaf_ok) (by kernel_rfl) (by kernel_rfl) (by kernel_rfl)

/- leadlight/plane.meet -/
def e15 : Reader := ⟨78, [(.agg #[(.int .i64 (0)), (.int .i64 (0))]), (.agg #[(.int .i64 (4)), (.int .i64 (0))]), (.agg #[(.int .i64 (2)), (.int .i64 (1))]), (.agg #[(.int .i64 (0)), (.int .i64 (4))])], [.dead, .dead], (.int .i64 (0)), []⟩

theorem e15_ok : e15.Ok Try.prog := Reader.ok (n := 400) (k := e15) pok (orT_sound (tabR_sound ok_nil) leaf_ok) (by kernel_rfl) (by kernel_rfl) (by kernel_rfl)

/- leadlight/plane.meet -/
def e16 : Reader := ⟨78, [(.agg #[(.int .i64 (0)), (.int .i64 (0))]), (.agg #[(.int .i64 (4)), (.int .i64 (0))]), (.agg #[(.int .i64 (4)), (.int .i64 (4))]), (.agg #[(.int .i64 (2)), (.int .i64 (1))])], [.dead, .dead], (.int .i64 (0)), []⟩

theorem e16_ok : e16.Ok Try.prog := Reader.ok (n := 400) (k := e16) pok (orT_sound (tabR_sound ok_nil) leaf_ok) (by kernel_rfl) (by kernel_rfl) (by kernel_rfl)

/- leadlight/plane.meet -/
def e17 : Reader := ⟨78, [(.agg #[(.int .i64 (0)), (.int .i64 (0))]), (.agg #[(.int .i64 (4)), (.int .i64 (0))]), (.agg #[(.int .i64 (4)), (.int .i64 (0))]), (.agg #[(.int .i64 (4)), (.int .i64 (4))])], [.dead, .dead], (.int .i64 (1)), []⟩

theorem e17_ok : e17.Ok Try.prog := Reader.ok (n := 400) (k := e17) pok (orT_sound (tabR_sound ok_nil) leaf_ok) (by kernel_rfl) (by kernel_rfl) (by kernel_rfl)

/- leadlight/plane.simple -/
def e18 : Reader := ⟨84, [(.slice (some ⟨0, 0, none⟩) 5 5)], [.cells [(.int .i64 (0)), (.int .i64 (0)), (.int .i64 (4)), (.int .i64 (0)), (.int .i64 (4)), (.int .i64 (4)), (.int .i64 (2)), (.int .i64 (1)), (.int .i64 (0)), (.int .i64 (4))] 23 false, .dead], (.bool true), []⟩

theorem e18_ok : e18.Ok Try.prog := Reader.ok (n := 400) (k := e18) pok (orT_sound (tabR_sound (ok_cons e17_ok (ok_cons e16_ok (ok_cons e15_ok (ok_cons e14_ok (ok_cons e13_ok (ok_cons e12_ok (ok_cons e11_ok (ok_cons e10_ok (ok_cons e9_ok (ok_cons e8_ok ok_nil))))))))))) leaf_ok) (by kernel_rfl) (by kernel_rfl) (by kernel_rfl)

/- leadlight/plane.least -/
def e19 : Reader := ⟨94, [(.slice (some ⟨0, 0, none⟩) 5 5)], [.cells [(.int .i64 (0)), (.int .i64 (0)), (.int .i64 (4)), (.int .i64 (0)), (.int .i64 (4)), (.int .i64 (4)), (.int .i64 (2)), (.int .i64 (1)), (.int .i64 (0)), (.int .i64 (4))] 23 false, .dead], (.int .i64 (0)), []⟩

theorem e19_ok : e19.Ok Try.prog := Reader.ok (n := 400) (k := e19) pok (orT_sound (tabR_sound ok_nil) leaf_ok) (by kernel_rfl) (by kernel_rfl) (by kernel_rfl)

/- leadlight/plane.doubled -/
def e20 : Reader := ⟨93, [(.slice (some ⟨0, 0, none⟩) 5 5)], [.cells [(.int .i64 (0)), (.int .i64 (0)), (.int .i64 (4)), (.int .i64 (0)), (.int .i64 (4)), (.int .i64 (4)), (.int .i64 (2)), (.int .i64 (1)), (.int .i64 (0)), (.int .i64 (4))] 23 false, .dead], (.int .i64 (20)), []⟩

theorem e20_ok : e20.Ok Try.prog := Reader.ok (n := 400) (k := e20) pok (orT_sound (tabR_sound ok_nil) leaf_ok) (by kernel_rfl) (by kernel_rfl) (by kernel_rfl)

/- leadlight/plane.first -/
def e21 : Reader := ⟨92, [(.slice (some ⟨0, 0, none⟩) 5 5), (.func (.func 83) #[] #[])], [.cells [(.int .i64 (0)), (.int .i64 (0)), (.int .i64 (4)), (.int .i64 (0)), (.int .i64 (4)), (.int .i64 (4)), (.int .i64 (2)), (.int .i64 (1)), (.int .i64 (0)), (.int .i64 (4))] 23 false, .dead], (.int .i64 (-1)), []⟩

theorem e21_ok : e21.Ok Try.prog := Reader.ok (n := 400) (k := e21) pok (orT_sound (tabR_sound ok_nil) leaf_ok) (by kernel_rfl) (by kernel_rfl) (by kernel_rfl)

/- leadlight/plane.Pockets -/
def e22 : Reader := ⟨68, [(.slice (some ⟨0, 0, none⟩) 5 5)], [.cells [(.int .i64 (0)), (.int .i64 (0)), (.int .i64 (4)), (.int .i64 (0)), (.int .i64 (4)), (.int .i64 (4)), (.int .i64 (2)), (.int .i64 (1)), (.int .i64 (0)), (.int .i64 (4))] 23 false], (.tuple #[(.slice (some ⟨52, 0, none⟩) 1 4611686018427387905), (.int .i64 (0))]), [.dead, .dead, .dead, .dead, .dead, .dead, .dead, .dead, .dead, .dead, .dead, .dead, .dead, .dead, .dead, .dead, .dead, .dead, .dead, .dead, .dead, .dead, .dead, .dead, .dead, .dead, .dead, .dead, .dead, .dead, .dead, .dead, .dead, .dead, .dead, .dead, .dead, .dead, .dead, .dead, .dead, .dead, .dead, .dead, .dead, .dead, .dead, .dead, .dead, .dead, .dead, .cells [(.int .i64 (2)), (.int .i64 (4)), (.int .i64 (12))] 84 true, .dead, .dead]⟩

theorem e22_ok : e22.Ok Try.prog := Reader.ok (n := 400) (k := e22) pok (orT_sound (tabR_sound (ok_cons e21_ok (ok_cons e20_ok (ok_cons e19_ok (ok_cons e18_ok (ok_cons e7_ok (ok_cons e4_ok ok_nil))))))) leaf_ok) (by kernel_rfl) (by kernel_rfl) (by kernel_rfl)

/- leadlight/plane.doubled -/
def e23 : Reader := ⟨93, [(.slice (some ⟨0, 0, none⟩) 5 5)], [.cells [(.int .i64 (0)), (.int .i64 (0)), (.int .i64 (4)), (.int .i64 (0)), (.int .i64 (4)), (.int .i64 (4)), (.int .i64 (2)), (.int .i64 (1)), (.int .i64 (0)), (.int .i64 (4))] 23 false], (.int .i64 (20)), []⟩

theorem e23_ok : e23.Ok Try.prog := Reader.ok (n := 400) (k := e23) pok (orT_sound (tabR_sound ok_nil) leaf_ok) (by kernel_rfl) (by kernel_rfl) (by kernel_rfl)

/- leadlight/plane.meet -/
def e24 : Reader := ⟨78, [(.agg #[(.int .i64 (2)), (.int .i64 (1))]), (.agg #[(.int .i64 (0)), (.int .i64 (4))]), (.agg #[(.int .i64 (0)), (.int .i64 (4))]), (.agg #[(.int .i64 (0)), (.int .i64 (0))])], [.dead], (.int .i64 (1)), []⟩

theorem e24_ok : e24.Ok Try.prog := Reader.ok (n := 400) (k := e24) pok (orT_sound (tabR_sound ok_nil) leaf_ok) (by kernel_rfl) (by kernel_rfl) (by kernel_rfl)

/- leadlight/plane.meet -/
def e25 : Reader := ⟨78, [(.agg #[(.int .i64 (4)), (.int .i64 (4))]), (.agg #[(.int .i64 (2)), (.int .i64 (1))]), (.agg #[(.int .i64 (0)), (.int .i64 (4))]), (.agg #[(.int .i64 (0)), (.int .i64 (0))])], [.dead], (.int .i64 (0)), []⟩

theorem e25_ok : e25.Ok Try.prog := Reader.ok (n := 400) (k := e25) pok (orT_sound (tabR_sound ok_nil) leaf_ok) (by kernel_rfl) (by kernel_rfl) (by kernel_rfl)

/- leadlight/plane.meet -/
def e26 : Reader := ⟨78, [(.agg #[(.int .i64 (4)), (.int .i64 (4))]), (.agg #[(.int .i64 (2)), (.int .i64 (1))]), (.agg #[(.int .i64 (2)), (.int .i64 (1))]), (.agg #[(.int .i64 (0)), (.int .i64 (4))])], [.dead], (.int .i64 (1)), []⟩

theorem e26_ok : e26.Ok Try.prog := Reader.ok (n := 400) (k := e26) pok (orT_sound (tabR_sound ok_nil) leaf_ok) (by kernel_rfl) (by kernel_rfl) (by kernel_rfl)

/- leadlight/plane.meet -/
def e27 : Reader := ⟨78, [(.agg #[(.int .i64 (4)), (.int .i64 (0))]), (.agg #[(.int .i64 (4)), (.int .i64 (4))]), (.agg #[(.int .i64 (0)), (.int .i64 (4))]), (.agg #[(.int .i64 (0)), (.int .i64 (0))])], [.dead], (.int .i64 (0)), []⟩

theorem e27_ok : e27.Ok Try.prog := Reader.ok (n := 400) (k := e27) pok (orT_sound (tabR_sound ok_nil) leaf_ok) (by kernel_rfl) (by kernel_rfl) (by kernel_rfl)

/- leadlight/plane.meet -/
def e28 : Reader := ⟨78, [(.agg #[(.int .i64 (4)), (.int .i64 (0))]), (.agg #[(.int .i64 (4)), (.int .i64 (4))]), (.agg #[(.int .i64 (2)), (.int .i64 (1))]), (.agg #[(.int .i64 (0)), (.int .i64 (4))])], [.dead], (.int .i64 (0)), []⟩

theorem e28_ok : e28.Ok Try.prog := Reader.ok (n := 400) (k := e28) pok (orT_sound (tabR_sound ok_nil) leaf_ok) (by kernel_rfl) (by kernel_rfl) (by kernel_rfl)

/- leadlight/plane.meet -/
def e29 : Reader := ⟨78, [(.agg #[(.int .i64 (4)), (.int .i64 (0))]), (.agg #[(.int .i64 (4)), (.int .i64 (4))]), (.agg #[(.int .i64 (4)), (.int .i64 (4))]), (.agg #[(.int .i64 (2)), (.int .i64 (1))])], [.dead], (.int .i64 (1)), []⟩

theorem e29_ok : e29.Ok Try.prog := Reader.ok (n := 400) (k := e29) pok (orT_sound (tabR_sound ok_nil) leaf_ok) (by kernel_rfl) (by kernel_rfl) (by kernel_rfl)

/- leadlight/plane.meet -/
def e30 : Reader := ⟨78, [(.agg #[(.int .i64 (0)), (.int .i64 (0))]), (.agg #[(.int .i64 (4)), (.int .i64 (0))]), (.agg #[(.int .i64 (0)), (.int .i64 (4))]), (.agg #[(.int .i64 (0)), (.int .i64 (0))])], [.dead], (.int .i64 (1)), []⟩

theorem e30_ok : e30.Ok Try.prog := Reader.ok (n := 400) (k := e30) pok (orT_sound (tabR_sound ok_nil) leaf_ok) (by kernel_rfl) (by kernel_rfl) (by kernel_rfl)

/- leadlight/plane.meet -/
def e31 : Reader := ⟨78, [(.agg #[(.int .i64 (0)), (.int .i64 (0))]), (.agg #[(.int .i64 (4)), (.int .i64 (0))]), (.agg #[(.int .i64 (2)), (.int .i64 (1))]), (.agg #[(.int .i64 (0)), (.int .i64 (4))])], [.dead], (.int .i64 (0)), []⟩

theorem e31_ok : e31.Ok Try.prog := Reader.ok (n := 400) (k := e31) pok (orT_sound (tabR_sound ok_nil) leaf_ok) (by kernel_rfl) (by kernel_rfl) (by kernel_rfl)

/- leadlight/plane.meet -/
def e32 : Reader := ⟨78, [(.agg #[(.int .i64 (0)), (.int .i64 (0))]), (.agg #[(.int .i64 (4)), (.int .i64 (0))]), (.agg #[(.int .i64 (4)), (.int .i64 (4))]), (.agg #[(.int .i64 (2)), (.int .i64 (1))])], [.dead], (.int .i64 (0)), []⟩

theorem e32_ok : e32.Ok Try.prog := Reader.ok (n := 400) (k := e32) pok (orT_sound (tabR_sound ok_nil) leaf_ok) (by kernel_rfl) (by kernel_rfl) (by kernel_rfl)

/- leadlight/plane.meet -/
def e33 : Reader := ⟨78, [(.agg #[(.int .i64 (0)), (.int .i64 (0))]), (.agg #[(.int .i64 (4)), (.int .i64 (0))]), (.agg #[(.int .i64 (4)), (.int .i64 (0))]), (.agg #[(.int .i64 (4)), (.int .i64 (4))])], [.dead], (.int .i64 (1)), []⟩

theorem e33_ok : e33.Ok Try.prog := Reader.ok (n := 400) (k := e33) pok (orT_sound (tabR_sound ok_nil) leaf_ok) (by kernel_rfl) (by kernel_rfl) (by kernel_rfl)

/- leadlight/plane.simple -/
def e34 : Reader := ⟨84, [(.slice (some ⟨0, 0, none⟩) 5 5)], [.cells [(.int .i64 (0)), (.int .i64 (0)), (.int .i64 (4)), (.int .i64 (0)), (.int .i64 (4)), (.int .i64 (4)), (.int .i64 (2)), (.int .i64 (1)), (.int .i64 (0)), (.int .i64 (4))] 23 false], (.bool true), []⟩

theorem e34_ok : e34.Ok Try.prog := Reader.ok (n := 400) (k := e34) pok (orT_sound (tabR_sound (ok_cons e33_ok (ok_cons e32_ok (ok_cons e31_ok (ok_cons e30_ok (ok_cons e29_ok (ok_cons e28_ok (ok_cons e27_ok (ok_cons e26_ok (ok_cons e25_ok (ok_cons e24_ok ok_nil))))))))))) leaf_ok) (by kernel_rfl) (by kernel_rfl) (by kernel_rfl)

/- leadlight/plane.least -/
def e35 : Reader := ⟨94, [(.slice (some ⟨0, 0, none⟩) 5 5)], [.cells [(.int .i64 (0)), (.int .i64 (0)), (.int .i64 (4)), (.int .i64 (0)), (.int .i64 (4)), (.int .i64 (4)), (.int .i64 (2)), (.int .i64 (1)), (.int .i64 (0)), (.int .i64 (4))] 23 false], (.int .i64 (0)), []⟩

theorem e35_ok : e35.Ok Try.prog := Reader.ok (n := 400) (k := e35) pok (orT_sound (tabR_sound ok_nil) leaf_ok) (by kernel_rfl) (by kernel_rfl) (by kernel_rfl)

/- leadlight/plane.first -/
def e36 : Reader := ⟨92, [(.slice (some ⟨0, 0, none⟩) 5 5), (.func (.func 83) #[] #[])], [.cells [(.int .i64 (0)), (.int .i64 (0)), (.int .i64 (4)), (.int .i64 (0)), (.int .i64 (4)), (.int .i64 (4)), (.int .i64 (2)), (.int .i64 (1)), (.int .i64 (0)), (.int .i64 (4))] 23 false], (.int .i64 (-1)), []⟩

theorem e36_ok : e36.Ok Try.prog := Reader.ok (n := 400) (k := e36) pok (orT_sound (tabR_sound ok_nil) leaf_ok) (by kernel_rfl) (by kernel_rfl) (by kernel_rfl)

/- leadlight/leadlightlaw01.awake -/
def e37 : Reader := ⟨17, [], [], (.bool true), []⟩

theorem e37_ok : e37.Ok Try.prog := Reader.ok (n := 400) (k := e37) pok (orT_sound (tabR_sound (ok_cons e36_ok (ok_cons e23_ok (ok_cons e35_ok (ok_cons e34_ok (ok_cons e22_ok (ok_cons e3_ok (ok_cons e2_ok ok_nil)))))))) leaf_ok) (by kernel_rfl) (by kernel_rfl) (by kernel_rfl)

end Go.Proofs.Ytpknllbglppjcaa
