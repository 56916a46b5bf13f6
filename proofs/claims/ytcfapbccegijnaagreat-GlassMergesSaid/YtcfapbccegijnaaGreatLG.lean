/- The abstract machine, part LG. -/
import Derived.Test.YtcfapbccegijnaaGreatLF
import Derived.Test.YtcfapbccegijnaaGreatW4
/- Walks: simple. -/
namespace Go.Proofs.YtcfapbccegijnaaGreat
open Go Go.RowKit Go.Proofs

end Go.Proofs.YtcfapbccegijnaaGreat

/- Walks: ValidOutline. -/
namespace Go.Proofs.YtcfapbccegijnaaGreat
open Go Go.RowKit Go.Proofs

def px (L : List (Int × Int)) (k : Nat) : Int := (L.getD k (0, 0)).1
def py (L : List (Int × Int)) (k : Nat) : Int := (L.getD k (0, 0)).2

/-- The points of L lie in block b from offset off on. -/
def PtsAt (w : World) (b off : Nat) (L : List (Int × Int)) : Prop := ∀ k, k < L.length → w.cell? ⟨b, off + k * 2, none⟩ = some (.int .i64 (px L k)) ∧ w.cell? ⟨b, off + k * 2 + 1, none⟩ = some (.int .i64 (py L k))

theorem PtsAt.keep {w w' : World} {b off : Nat} {L : List (Int × Int)} (h : PtsAt w b off L) (hb : Below w.heap.size w w') : PtsAt w' b off L := fun k hk => ⟨keep_cell hb (h k hk).1, keep_cell hb (h k hk).2⟩

theorem PtsAt.lt {w : World} {b off : Nat} {L : List (Int × Int)} (h : PtsAt w b off L) (hn : 0 < L.length) : b < w.heap.size := lt_of_cell (h 0 hn).1

end Go.Proofs.YtcfapbccegijnaaGreat

/- Walks: the reference's points, at, less. -/
namespace Go.Proofs.YtcfapbccegijnaaGreat
open Go Go.RowKit Go.Proofs

end Go.Proofs.YtcfapbccegijnaaGreat

/- Walks: the reference's sum. -/
namespace Go.Proofs.YtcfapbccegijnaaGreat
open Go Go.RowKit Go.Proofs

end Go.Proofs.YtcfapbccegijnaaGreat

/- How two segments meet: it does not depend on their order, nor on that of the ends of one. -/
namespace Go.Proofs.YtcfapbccegijnaaGreat
open Go Go.RowKit Go.Proofs

def val : Option (Int × Int × Int) → Int
  | none => 3
  | some (f, _, _) => f

end Go.Proofs.YtcfapbccegijnaaGreat

/- The ends that two segments have in common: plain lists. -/
namespace Go.Proofs.YtcfapbccegijnaaGreat
open Go Go.RowKit Go.Proofs

/-- The four ends: whether both segments have each. -/
def both (ax ay bx b_y cx cy dx dy : Int) : List (Bool × Int × Int) :=
  [(onSeg ax ay ax ay bx b_y && onSeg ax ay cx cy dx dy, ax, ay), (onSeg bx b_y ax ay bx b_y && onSeg bx b_y cx cy dx dy, bx, b_y), (onSeg cx cy ax ay bx b_y && onSeg cx cy cx cy dx dy, cx, cy), (onSeg dx dy ax ay bx b_y && onSeg dx dy cx cy dx dy, dx, dy)]

end Go.Proofs.YtcfapbccegijnaaGreat

/- Walks: the reference's On. -/
namespace Go.Proofs.YtcfapbccegijnaaGreat
open Go Go.RowKit Go.Proofs

end Go.Proofs.YtcfapbccegijnaaGreat
