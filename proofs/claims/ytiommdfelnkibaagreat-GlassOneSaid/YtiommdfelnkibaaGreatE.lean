/- Calls that are known. -/
import Derived.Test.YtiommdfelnkibaaGreatLQ
import Derived.Test.YtiommdfelnkibaaGreatAbsE
namespace Go.Proofs.YtiommdfelnkibaaGreat
open Go Go.RowKit Go.Proofs Go.Abs

/- leadlight/glass.pairing$2 -/
def e0 : Reader := ⟨132, [(.int .i64 (0)), (.pointer (some ⟨75, 0, none⟩)), (.pointer (some ⟨76, 0, none⟩)), (.pointer (some ⟨68, 0, none⟩)), (.pointer (some ⟨65, 0, none⟩))], [.dead, .dead, .dead, .dead, .dead, .dead, .dead, .dead, .dead, .dead, .dead, .dead, .dead, .dead, .dead, .dead, .dead, .dead, .dead, .dead, .dead, .dead, .dead, .dead, .dead, .dead, .dead, .dead, .dead, .dead, .dead, .dead, .dead, .dead, .dead, .dead, .dead, .dead, .dead, .dead, .dead, .dead, .dead, .dead, .dead, .dead, .dead, .dead, .dead, .dead, .dead, .dead, .dead, .dead, .dead, .dead, .dead, .dead, .dead, .dead, .cells [(.int .i64 (0)), (.int .i64 (4)), (.int .i64 (1))] 78 false, .cells [(.int .i64 (3)), (.int .i64 (10)), (.int .i64 (1))] 78 false, .cells [(.slice (some ⟨60, 0, none⟩) 1 1)] 23 false, .cells [(.slice (some ⟨61, 0, none⟩) 1 1)] 23 false, .cells [(.int .i64 (1))] 3 false, .cells [(.func (.func 130) #[] #[(.pointer (some ⟨62, 0, none⟩)), (.pointer (some ⟨63, 0, none⟩)), (.pointer (some ⟨64, 0, none⟩))])] 155 false, .dead, .dead, .cells [(.bool false), (.bool false), (.bool false), (.bool false), (.bool false), (.bool false), (.bool false), (.bool false), (.bool false), (.bool false), (.bool false), (.bool false), (.bool false), (.bool false), (.bool false), (.bool false), (.bool false), (.bool false), (.bool false), (.bool false), (.bool false), (.bool false), (.bool false), (.bool false), (.bool false), (.bool false), (.bool false), (.bool false), (.bool false), (.bool false), (.bool false), (.bool false)] 158 false, .dead, .dead, .cells [(.int .i64 (0))] 3 false, .dead, .dead, .cells [(.int .i64 (0))] 3 false, .cells [(.slice (some ⟨71, 0, none⟩) 1 1)] 74 false, .cells [(.slice (some ⟨74, 0, none⟩) 1 1)] 74 false, .dead, .dead], (.bool false), []⟩

theorem e0_ok : e0.Ok Tryz.prog := Reader.ok (n := 400) (k := e0) pok (orT_sound (tabR_sound ok_nil) leaf_ok) (by kernel_rfl) (by kernel_rfl) (by kernel_rfl)

/- leadlight/glass.pairing -/
def e1 : Reader := ⟨84, [(.slice (some ⟨60, 0, none⟩) 1 1), (.slice (some ⟨61, 0, none⟩) 1 1), (.int .i64 (1))], [.dead, .dead, .dead, .dead, .dead, .dead, .dead, .dead, .dead, .dead, .dead, .dead, .dead, .dead, .dead, .dead, .dead, .dead, .dead, .dead, .dead, .dead, .dead, .dead, .dead, .dead, .dead, .dead, .dead, .dead, .dead, .dead, .dead, .dead, .dead, .dead, .dead, .dead, .dead, .dead, .dead, .dead, .dead, .dead, .dead, .dead, .dead, .dead, .dead, .dead, .dead, .dead, .dead, .dead, .dead, .dead, .dead, .dead, .dead, .dead, .cells [(.int .i64 (0)), (.int .i64 (4)), (.int .i64 (1))] 78 false, .cells [(.int .i64 (3)), (.int .i64 (10)), (.int .i64 (1))] 78 false], (.tuple #[(.slice (some ⟨66, 0, none⟩) 1 1), (.bool false)]), [.dead, .dead, .dead, .dead, .cells [(.int .i64 (0))] 3 true, .dead, .dead, .dead, .dead, .dead, .dead, .dead, .dead, .dead, .dead, .dead, .dead]⟩

theorem e1_ok : e1.Ok Tryz.prog := Reader.ok (n := 400) (k := e1) pok (orT_sound (tabR_sound (ok_cons e0_ok ok_nil)) leaf_ok) (by kernel_rfl) (by kernel_rfl) (by kernel_rfl)

/- leadlight/glass.pairing$2 -/
def e2 : Reader := ⟨132, [(.int .i64 (0)), (.pointer (some ⟨56, 0, none⟩)), (.pointer (some ⟨57, 0, none⟩)), (.pointer (some ⟨49, 0, none⟩)), (.pointer (some ⟨46, 0, none⟩))], [.dead, .dead, .dead, .dead, .dead, .dead, .dead, .dead, .dead, .dead, .dead, .dead, .dead, .dead, .dead, .dead, .dead, .dead, .dead, .dead, .dead, .dead, .dead, .dead, .dead, .dead, .dead, .dead, .dead, .dead, .dead, .dead, .dead, .dead, .dead, .dead, .dead, .dead, .dead, .dead, .dead, .cells [(.int .i64 (0)), (.int .i64 (4)), (.int .i64 (1))] 78 false, .cells [(.int .i64 (3)), (.int .i64 (11)), (.int .i64 (1))] 78 false, .cells [(.slice (some ⟨41, 0, none⟩) 1 1)] 23 false, .cells [(.slice (some ⟨42, 0, none⟩) 1 1)] 23 false, .cells [(.int .i64 (1))] 3 false, .cells [(.func (.func 130) #[] #[(.pointer (some ⟨43, 0, none⟩)), (.pointer (some ⟨44, 0, none⟩)), (.pointer (some ⟨45, 0, none⟩))])] 155 false, .dead, .dead, .cells [(.bool false), (.bool false), (.bool false), (.bool false), (.bool false), (.bool false), (.bool false), (.bool false), (.bool false), (.bool false), (.bool false), (.bool false), (.bool false), (.bool false), (.bool false), (.bool false), (.bool false), (.bool false), (.bool false), (.bool false), (.bool false), (.bool false), (.bool false), (.bool false), (.bool false), (.bool false), (.bool false), (.bool false), (.bool false), (.bool false), (.bool false), (.bool false)] 158 false, .dead, .dead, .cells [(.int .i64 (0))] 3 false, .dead, .dead, .cells [(.int .i64 (0))] 3 false, .cells [(.slice (some ⟨52, 0, none⟩) 1 1)] 74 false, .cells [(.slice (some ⟨55, 0, none⟩) 1 1)] 74 false, .dead, .dead], (.bool true), []⟩

theorem e2_ok : e2.Ok Tryz.prog := Reader.ok (n := 400) (k := e2) pok (orT_sound (tabR_sound ok_nil) leaf_ok) (by kernel_rfl) (by kernel_rfl) (by kernel_rfl)

/- leadlight/glass.pairing -/
def e3 : Reader := ⟨84, [(.slice (some ⟨41, 0, none⟩) 1 1), (.slice (some ⟨42, 0, none⟩) 1 1), (.int .i64 (1))], [.dead, .dead, .dead, .dead, .dead, .dead, .dead, .dead, .dead, .dead, .dead, .dead, .dead, .dead, .dead, .dead, .dead, .dead, .dead, .dead, .dead, .dead, .dead, .dead, .dead, .dead, .dead, .dead, .dead, .dead, .dead, .dead, .dead, .dead, .dead, .dead, .dead, .dead, .dead, .dead, .dead, .cells [(.int .i64 (0)), (.int .i64 (4)), (.int .i64 (1))] 78 false, .cells [(.int .i64 (3)), (.int .i64 (11)), (.int .i64 (1))] 78 false], (.tuple #[(.slice (some ⟨47, 0, none⟩) 1 1), (.bool true)]), [.dead, .dead, .dead, .dead, .cells [(.int .i64 (0))] 3 true, .dead, .dead, .dead, .dead, .dead, .dead, .dead, .dead, .dead, .dead, .dead, .dead]⟩

theorem e3_ok : e3.Ok Tryz.prog := Reader.ok (n := 400) (k := e3) pok (orT_sound (tabR_sound (ok_cons e2_ok ok_nil)) leaf_ok) (by kernel_rfl) (by kernel_rfl) (by kernel_rfl)

/- leadlight/plane.bends -/
def e4 : Reader := ⟨115, [(.slice (some ⟨0, 0, none⟩) 4 4)], [.cells [(.int .i64 (0)), (.int .i64 (0)), (.int .i64 (4)), (.int .i64 (0)), (.int .i64 (4)), (.int .i64 (2)), (.int .i64 (0)), (.int .i64 (2))] 66 false, .dead, .dead, .dead, .dead], (.slice (some ⟨24, 0, none⟩) 4 4611686018427387908), [.dead, .dead, .dead, .dead, .dead, .dead, .dead, .dead, .dead, .dead, .dead, .dead, .dead, .dead, .dead, .dead, .dead, .dead, .dead, .cells [(.int .i64 (1)), (.int .i64 (1)), (.int .i64 (1)), (.int .i64 (1))] 3 true]⟩

theorem e4_ok : e4.Ok Tryz.prog := Reader.ok (n := 400) (k := e4) pok (orT_sound (tabR_sound ok_nil) leaf_ok) (by kernel_rfl) (by kernel_rfl) (by kernel_rfl)

/- leadlight/plane.meet -/
def e5 : Reader := ⟨143, [(.agg #[(.int .i64 (4)), (.int .i64 (2))]), (.agg #[(.int .i64 (0)), (.int .i64 (2))]), (.agg #[(.int .i64 (0)), (.int .i64 (2))]), (.agg #[(.int .i64 (0)), (.int .i64 (0))])], [.dead, .dead, .dead, .dead, .dead], (.int .i64 (1)), []⟩

theorem e5_ok : e5.Ok Tryz.prog := Reader.ok (n := 400) (k := e5) pok (orT_sound (tabR_sound ok_nil) leaf_ok) (by kernel_rfl) (by kernel_rfl) (by kernel_rfl)

/- leadlight/plane.meet -/
def e6 : Reader := ⟨143, [(.agg #[(.int .i64 (4)), (.int .i64 (0))]), (.agg #[(.int .i64 (4)), (.int .i64 (2))]), (.agg #[(.int .i64 (4)), (.int .i64 (2))]), (.agg #[(.int .i64 (0)), (.int .i64 (2))])], [.dead, .dead, .dead, .dead, .dead], (.int .i64 (1)), []⟩

theorem e6_ok : e6.Ok Tryz.prog := Reader.ok (n := 400) (k := e6) pok (orT_sound (tabR_sound ok_nil) leaf_ok) (by kernel_rfl) (by kernel_rfl) (by kernel_rfl)

/- leadlight/plane.meet -/
def e7 : Reader := ⟨143, [(.agg #[(.int .i64 (0)), (.int .i64 (0))]), (.agg #[(.int .i64 (4)), (.int .i64 (0))]), (.agg #[(.int .i64 (0)), (.int .i64 (2))]), (.agg #[(.int .i64 (0)), (.int .i64 (0))])], [.dead, .dead, .dead, .dead, .dead], (.int .i64 (1)), []⟩

theorem e7_ok : e7.Ok Tryz.prog := Reader.ok (n := 400) (k := e7) pok (orT_sound (tabR_sound ok_nil) leaf_ok) (by kernel_rfl) (by kernel_rfl) (by kernel_rfl)

/- leadlight/plane.meet -/
def e8 : Reader := ⟨143, [(.agg #[(.int .i64 (0)), (.int .i64 (0))]), (.agg #[(.int .i64 (4)), (.int .i64 (0))]), (.agg #[(.int .i64 (4)), (.int .i64 (0))]), (.agg #[(.int .i64 (4)), (.int .i64 (2))])], [.dead, .dead, .dead, .dead, .dead], (.int .i64 (1)), []⟩

theorem e8_ok : e8.Ok Tryz.prog := Reader.ok (n := 400) (k := e8) pok (orT_sound (tabR_sound ok_nil) leaf_ok) (by kernel_rfl) (by kernel_rfl) (by kernel_rfl)

/- leadlight/plane.simple -/
def e9 : Reader := ⟨92, [(.slice (some ⟨0, 0, none⟩) 4 4)], [.cells [(.int .i64 (0)), (.int .i64 (0)), (.int .i64 (4)), (.int .i64 (0)), (.int .i64 (4)), (.int .i64 (2)), (.int .i64 (0)), (.int .i64 (2))] 66 false, .dead, .dead, .dead, .dead], (.bool true), []⟩

theorem e9_ok : e9.Ok Tryz.prog := Reader.ok (n := 400) (k := e9) pok (orT_sound (tabR_sound (ok_cons e8_ok (ok_cons e7_ok (ok_cons e6_ok (ok_cons e5_ok ok_nil))))) leaf_ok) (by kernel_rfl) (by kernel_rfl) (by kernel_rfl)

/- leadlight/plane.doubled -/
def e10 : Reader := ⟨90, [(.slice (some ⟨0, 0, none⟩) 4 4)], [.cells [(.int .i64 (0)), (.int .i64 (0)), (.int .i64 (4)), (.int .i64 (0)), (.int .i64 (4)), (.int .i64 (2)), (.int .i64 (0)), (.int .i64 (2))] 66 false, .dead, .dead, .dead, .dead], (.int .i64 (16)), []⟩

theorem e10_ok : e10.Ok Tryz.prog := Reader.ok (n := 400) (k := e10) pok (orT_sound (tabR_sound ok_nil) leaf_ok) (by kernel_rfl) (by kernel_rfl) (by kernel_rfl)

/- leadlight/plane.first -/
def e11 : Reader := ⟨88, [(.slice (some ⟨0, 0, none⟩) 4 4), (.func (.func 89) #[] #[])], [.cells [(.int .i64 (0)), (.int .i64 (0)), (.int .i64 (4)), (.int .i64 (0)), (.int .i64 (4)), (.int .i64 (2)), (.int .i64 (0)), (.int .i64 (2))] 66 false, .dead, .dead, .dead, .dead], (.int .i64 (-1)), []⟩

theorem e11_ok : e11.Ok Tryz.prog := Reader.ok (n := 400) (k := e11) pok (orT_sound (tabR_sound ok_nil) leaf_ok) (by kernel_rfl) (by kernel_rfl) (by kernel_rfl)

/- leadlight/plane.ValidOutline -/
def e12 : Reader := ⟨45, [(.slice (some ⟨0, 0, none⟩) 4 4)], [.cells [(.int .i64 (0)), (.int .i64 (0)), (.int .i64 (4)), (.int .i64 (0)), (.int .i64 (4)), (.int .i64 (2)), (.int .i64 (0)), (.int .i64 (2))] 66 false, .dead, .dead, .dead, .dead], (.bool true), []⟩

theorem e12_ok : e12.Ok Tryz.prog := Reader.ok (n := 400) (k := e12) pok (orT_sound (tabR_sound (ok_cons e11_ok (ok_cons e10_ok (ok_cons e9_ok ok_nil)))) leaf_ok) (by kernel_rfl) (by kernel_rfl) (by kernel_rfl)

/- leadlight/plane.meet -/
def e13 : Reader := ⟨143, [(.agg #[(.int .i64 (4)), (.int .i64 (2))]), (.agg #[(.int .i64 (0)), (.int .i64 (2))]), (.agg #[(.int .i64 (0)), (.int .i64 (2))]), (.agg #[(.int .i64 (0)), (.int .i64 (0))])], [.dead], (.int .i64 (1)), []⟩

theorem e13_ok : e13.Ok Tryz.prog := Reader.ok (n := 400) (k := e13) pok (orT_sound (tabR_sound ok_nil) leaf_ok) (by kernel_rfl) (by kernel_rfl) (by kernel_rfl)

/- leadlight/plane.meet -/
def e14 : Reader := ⟨143, [(.agg #[(.int .i64 (4)), (.int .i64 (0))]), (.agg #[(.int .i64 (4)), (.int .i64 (2))]), (.agg #[(.int .i64 (4)), (.int .i64 (2))]), (.agg #[(.int .i64 (0)), (.int .i64 (2))])], [.dead], (.int .i64 (1)), []⟩

theorem e14_ok : e14.Ok Tryz.prog := Reader.ok (n := 400) (k := e14) pok (orT_sound (tabR_sound ok_nil) leaf_ok) (by kernel_rfl) (by kernel_rfl) (by kernel_rfl)

/- leadlight/plane.meet -/
def e15 : Reader := ⟨143, [(.agg #[(.int .i64 (0)), (.int .i64 (0))]), (.agg #[(.int .i64 (4)), (.int .i64 (0))]), (.agg #[(.int .i64 (0)), (.int .i64 (2))]), (.agg #[(.int .i64 (0)), (.int .i64 (0))])], [.dead], (.int .i64 (1)), []⟩

theorem e15_ok : e15.Ok Tryz.prog := Reader.ok (n := 400) (k := e15) pok (orT_sound (tabR_sound ok_nil) leaf_ok) (by kernel_rfl) (by kernel_rfl) (by kernel_rfl)

/- leadlight/plane.meet -/
def e16 : Reader := ⟨143, [(.agg #[(.int .i64 (0)), (.int .i64 (0))]), (.agg #[(.int .i64 (4)), (.int .i64 (0))]), (.agg #[(.int .i64 (4)), (.int .i64 (2))]), (.agg #[(.int .i64 (0)), (.int .i64 (2))])], [.dead], (.int .i64 (0)), []⟩

theorem e16_ok : e16.Ok Tryz.prog := Reader.ok (n := 400) (k := e16) pok (orT_sound (tabR_sound ok_nil) leaf_ok) (by kernel_rfl) (by kernel_rfl) (by kernel_rfl)

/- leadlight/plane.meet -/
def e17 : Reader := ⟨143, [(.agg #[(.int .i64 (0)), (.int .i64 (0))]), (.agg #[(.int .i64 (4)), (.int .i64 (0))]), (.agg #[(.int .i64 (4)), (.int .i64 (0))]), (.agg #[(.int .i64 (4)), (.int .i64 (2))])], [.dead], (.int .i64 (1)), []⟩

theorem e17_ok : e17.Ok Tryz.prog := Reader.ok (n := 400) (k := e17) pok (orT_sound (tabR_sound ok_nil) leaf_ok) (by kernel_rfl) (by kernel_rfl) (by kernel_rfl)

/- leadlight/plane.simple -/
def e18 : Reader := ⟨92, [(.slice (some ⟨0, 0, none⟩) 4 4)], [.cells [(.int .i64 (0)), (.int .i64 (0)), (.int .i64 (4)), (.int .i64 (0)), (.int .i64 (4)), (.int .i64 (2)), (.int .i64 (0)), (.int .i64 (2))] 66 false], (.bool true), []⟩

theorem e18_ok : e18.Ok Tryz.prog := Reader.ok (n := 400) (k := e18) pok (orT_sound (tabR_sound (ok_cons e17_ok (ok_cons e16_ok (ok_cons e15_ok (ok_cons e14_ok (ok_cons e13_ok ok_nil)))))) leaf_ok) (by kernel_rfl) (by kernel_rfl) (by kernel_rfl)

/- leadlight/plane.doubled -/
def e19 : Reader := ⟨90, [(.slice (some ⟨0, 0, none⟩) 4 4)], [.cells [(.int .i64 (0)), (.int .i64 (0)), (.int .i64 (4)), (.int .i64 (0)), (.int .i64 (4)), (.int .i64 (2)), (.int .i64 (0)), (.int .i64 (2))] 66 false], (.int .i64 (16)), []⟩

theorem e19_ok : e19.Ok Tryz.prog := Reader.ok (n := 400) (k := e19) pok (orT_sound (tabR_sound ok_nil) leaf_ok) (by kernel_rfl) (by kernel_rfl) (by kernel_rfl)

/- leadlight/plane.first -/
def e20 : Reader := ⟨88, [(.slice (some ⟨0, 0, none⟩) 4 4), (.func (.func 89) #[] #[])], [.cells [(.int .i64 (0)), (.int .i64 (0)), (.int .i64 (4)), (.int .i64 (0)), (.int .i64 (4)), (.int .i64 (2)), (.int .i64 (0)), (.int .i64 (2))] 66 false], (.int .i64 (-1)), []⟩

theorem e20_ok : e20.Ok Tryz.prog := Reader.ok (n := 400) (k := e20) pok (orT_sound (tabR_sound ok_nil) leaf_ok) (by kernel_rfl) (by kernel_rfl) (by kernel_rfl)

/- leadlight/plane.ValidOutline -/
def e21 : Reader := ⟨45, [(.slice (some ⟨0, 0, none⟩) 4 4)], [.cells [(.int .i64 (0)), (.int .i64 (0)), (.int .i64 (4)), (.int .i64 (0)), (.int .i64 (4)), (.int .i64 (2)), (.int .i64 (0)), (.int .i64 (2))] 66 false], (.bool true), []⟩

theorem e21_ok : e21.Ok Tryz.prog := Reader.ok (n := 400) (k := e21) pok (orT_sound (tabR_sound (ok_cons e20_ok (ok_cons e19_ok (ok_cons e18_ok ok_nil)))) leaf_ok) (by kernel_rfl) (by kernel_rfl) (by kernel_rfl)

/- leadlight/glass.Gauges -/
def e22 : Reader := ⟨30, [(.slice (some ⟨0, 0, none⟩) 4 4)], [.cells [(.int .i64 (0)), (.int .i64 (0)), (.int .i64 (4)), (.int .i64 (0)), (.int .i64 (4)), (.int .i64 (2)), (.int .i64 (0)), (.int .i64 (2))] 66 false], (.tuple #[(.slice (some ⟨40, 0, none⟩) 4 4611686018427387908), (.int .i64 (0))]), [.dead, .dead, .dead, .dead, .dead, .dead, .dead, .dead, .dead, .dead, .dead, .dead, .dead, .dead, .dead, .dead, .dead, .dead, .dead, .dead, .dead, .dead, .dead, .dead, .dead, .dead, .dead, .dead, .dead, .dead, .dead, .dead, .dead, .dead, .dead, .dead, .dead, .dead, .dead, .cells [(.int .i64 (16)), (.int .i64 (16)), (.int .i64 (20)), (.int .i64 (20)), (.int .i64 (1)), (.int .i64 (4)), (.int .i64 (4)), (.int .i64 (20)), (.int .i64 (20)), (.int .i64 (1)), (.int .i64 (16)), (.int .i64 (16)), (.int .i64 (20)), (.int .i64 (20)), (.int .i64 (1)), (.int .i64 (4)), (.int .i64 (4)), (.int .i64 (20)), (.int .i64 (20)), (.int .i64 (1))] 83 true]⟩

theorem e22_ok : e22.Ok Tryz.prog := Reader.ok (n := 400) (k := e22) pok (orT_sound (tabR_sound (ok_cons e21_ok (ok_cons e12_ok (ok_cons e4_ok ok_nil)))) leaf_ok) (by kernel_rfl) (by kernel_rfl) (by kernel_rfl)

/- leadlight/leadlightlaw03.awake -/
def e23 : Reader := ⟨10, [], [], (.bool true), []⟩

theorem e23_ok : e23.Ok Tryz.prog := Reader.ok (n := 400) (k := e23) pok (orT_sound (tabR_sound (ok_cons e22_ok (ok_cons e3_ok (ok_cons e1_ok ok_nil)))) leaf_ok) (by kernel_rfl) (by kernel_rfl) (by kernel_rfl)

end Go.Proofs.YtiommdfelnkibaaGreat
