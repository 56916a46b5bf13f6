/- Walks: meet. -/
import Derived.Test.YtcfapbccegijnaaGreatLA
import Derived.Lib.Hide
import Derived.RegionTactic
import Derived.Deep.Cut
import Derived.OwnWalk
import Derived.Deep.CutBlock
import Derived.Deep.MidRow
namespace Go.Proofs.YtcfapbccegijnaaGreat
open Go Go.RowKit Go.Proofs

structure Pts (w : World) (ax ay bx b_y cx cy dx dy : Int) (w' : World) : Prop where
  b : Below w.heap.size w w'
  n : w.heap.size + 4 ≤ w'.heap.size
  c0 : w'.cell? ⟨w.heap.size, 0, none⟩ = some (.int .i64 ax)
  c1 : w'.cell? ⟨w.heap.size, 1, none⟩ = some (.int .i64 ay)
  c2 : w'.cell? ⟨w.heap.size + 1, 0, none⟩ = some (.int .i64 bx)
  c3 : w'.cell? ⟨w.heap.size + 1, 1, none⟩ = some (.int .i64 b_y)
  c4 : w'.cell? ⟨w.heap.size + 1 + 1, 0, none⟩ = some (.int .i64 cx)
  c5 : w'.cell? ⟨w.heap.size + 1 + 1, 1, none⟩ = some (.int .i64 cy)
  c6 : w'.cell? ⟨w.heap.size + 1 + 1 + 1, 0, none⟩ = some (.int .i64 dx)
  c7 : w'.cell? ⟨w.heap.size + 1 + 1 + 1, 1, none⟩ = some (.int .i64 dy)

variable {w w1 w2 : World} {ax ay bx b_y cx cy dx dy : Int}

theorem Pts.keep (h : Pts w ax ay bx b_y cx cy dx dy w1) (hb : Below w1.heap.size w1 w2) : Pts w ax ay bx b_y cx cy dx dy w2 :=
  ⟨keep_below h.b hb, Nat.le_trans h.n hb.size, keep_cell hb h.c0, keep_cell hb h.c1, keep_cell hb h.c2, keep_cell hb h.c3, keep_cell hb h.c4, keep_cell hb h.c5, keep_cell hb h.c6, keep_cell hb h.c7⟩

theorem Pts.start (w : World) (ax ay bx b_y cx cy dx dy : Int) : Pts w ax ay bx b_y cx cy dx dy ((((w.alloc (ptObj ax ay)).alloc (ptObj bx b_y)).alloc (ptObj cx cy)).alloc (ptObj dx dy)) := by
  obtain ⟨b, c0, c1, c2, c3, c4, c5, c6, c7⟩ := pts4 w ax ay bx b_y cx cy dx dy
  refine ⟨((((Below.refl _ _).alloc (by simp) _).alloc (by simp) _).alloc (by simp; omega) _).alloc (by simp; omega) _, by simp, c0, c1, c2, c3, c4, c5, c6, c7⟩

/-- The four ends, each with the ends of the other segment. -/
def ends (ax ay bx b_y cx cy dx dy : Int) : List Value :=
  [.int .i64 ax, .int .i64 ay, .int .i64 cx, .int .i64 cy, .int .i64 dx, .int .i64 dy, .int .i64 bx, .int .i64 b_y, .int .i64 cx, .int .i64 cy, .int .i64 dx, .int .i64 dy,
   .int .i64 cx, .int .i64 cy, .int .i64 ax, .int .i64 ay, .int .i64 bx, .int .i64 b_y, .int .i64 dx, .int .i64 dy, .int .i64 ax, .int .i64 ay, .int .i64 bx, .int .i64 b_y]

/-- The four ends: whether each lies on the other segment. -/
def items (ax ay bx b_y cx cy dx dy : Int) : List (Bool × Int × Int) :=
  [(onSeg ax ay cx cy dx dy, ax, ay), (onSeg bx b_y cx cy dx dy, bx, b_y), (onSeg cx cy ax ay bx b_y, cx, cy), (onSeg dx dy ax ay bx b_y, dx, dy)]

end Go.Proofs.YtcfapbccegijnaaGreat
