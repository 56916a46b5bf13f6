/- Walks: the reference's content: what is bare. -/
import Derived.Test.YtcgmmfcphfkdhaaGreatGrN6
namespace Go.Proofs.YtcgmmfcphfkdhaaGreat
open Go Go.RowKit Go.Proofs

def bar (x : Nv) : Nv := { x with N := { x.N with b := 0, n := 0, c := 0, y := 0, k := 0, f := 0 } }
theorem bar_nv {x : Nv} {w : World} (h : NV w x) : NV w (bar x) := ⟨h.P, h.Q, h.D, ⟨h.X.P, h.X.C, h.X.S⟩⟩
abbrev bset (V : Array Value) : Array Value := (((((V.setIfInBounds 0 (.int .i64 0)).setIfInBounds 1 (.int .i64 0)).setIfInBounds 2 (.int .i64 0)).setIfInBounds 3 (.int .i64 0)).setIfInBounds 4 (.int .i64 0)).setIfInBounds 5 (.int .i64 0)
theorem bar_arr (x : Nv) : bset x.arr = (bar x).arr := by
  have w0 : x.arr.setIfInBounds 0 (.int .i64 0) = Nv.arr { x with N := { x.N with b := 0 } } := rfl
  have w1 : (Nv.arr { x with N := { x.N with b := 0 } }).setIfInBounds 1 (.int .i64 0) = Nv.arr { x with N := { x.N with b := 0, n := 0 } } := rfl
  have w2 : (Nv.arr { x with N := { x.N with b := 0, n := 0 } }).setIfInBounds 2 (.int .i64 0) = Nv.arr { x with N := { x.N with b := 0, n := 0, c := 0 } } := rfl
  have w3 : (Nv.arr { x with N := { x.N with b := 0, n := 0, c := 0 } }).setIfInBounds 3 (.int .i64 0) = Nv.arr { x with N := { x.N with b := 0, n := 0, c := 0, y := 0 } } := rfl
  have w4 : (Nv.arr { x with N := { x.N with b := 0, n := 0, c := 0, y := 0 } }).setIfInBounds 4 (.int .i64 0) = Nv.arr { x with N := { x.N with b := 0, n := 0, c := 0, y := 0, k := 0 } } := rfl
  have w5 : (Nv.arr { x with N := { x.N with b := 0, n := 0, c := 0, y := 0, k := 0 } }).setIfInBounds 5 (.int .i64 0) = (bar x).arr := rfl
  unfold bset
  rw [w0, w1, w2, w3, w4, w5]

end Go.Proofs.YtcgmmfcphfkdhaaGreat
