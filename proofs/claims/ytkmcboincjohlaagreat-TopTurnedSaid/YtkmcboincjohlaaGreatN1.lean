/- Walks: the reference's meet. -/
import Derived.Test.YtkmcboincjohlaaGreatGrLG
import Derived.Laws.AppendOwn
import Derived.Test.YtkmcboincjohlaaGreatGrLE
namespace Go.Proofs.YtkmcboincjohlaaGreat
open Go Go.RowKit Go.Proofs

theorem grown_cell {w1 w2 : World} {base b o : Nat} {row : Option Nat} {v : Value} (hb : b < base) (hg : w1.grownBy w2 row) (hr : ∀ k, row = some k → base ≤ k) (h : w1.cell? ⟨b, o, none⟩ = some v) : w2.cell? ⟨b, o, none⟩ = some v :=
  hg.cell h (fun e => by have := hr b e.symm; omega)

theorem Pts.grown {w w1 w2 : World} {ax ay bx b_y cx cy dx dy : Int} {base : Nat} {row : Option Nat} (h : Pts w ax ay bx b_y cx cy dx dy w1) (hb : w.heap.size + 4 ≤ base) (hg : w1.grownBy w2 row) (hr : ∀ k, row = some k → base ≤ k) : Pts w ax ay bx b_y cx cy dx dy w2 :=
  ⟨h.b.grown hg (by have := h.n; omega) (fun k hk => by have := hr k hk; omega), Nat.le_trans h.n hg.size, grown_cell (by omega) hg hr h.c0, grown_cell (by omega) hg hr h.c1, grown_cell (by omega) hg hr h.c2, grown_cell (by omega) hg hr h.c3,
    grown_cell (by omega) hg hr h.c4, grown_cell (by omega) hg hr h.c5, grown_cell (by omega) hg hr h.c6, grown_cell (by omega) hg hr h.c7⟩

end Go.Proofs.YtkmcboincjohlaaGreat
