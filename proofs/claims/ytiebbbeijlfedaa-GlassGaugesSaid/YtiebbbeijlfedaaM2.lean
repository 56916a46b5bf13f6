/- How two segments meet: it does not depend on their order, nor on that of the ends of one. -/
import Derived.Test.YtiebbbeijlfedaaW4
import Derived.Test.YtiebbbeijlfedaaWB
namespace Go.Proofs.Ytiebbbeijlfedaa
open Go Go.RowKit Go.Proofs

theorem cross_swap (ax ay bx b_y px py : Int) : cross bx b_y ax ay px py = - cross ax ay bx b_y px py := by
  unfold cross
  simp only [Int.sub_mul, Int.mul_sub]
  have h1 := Int.mul_comm ax b_y
  have h2 := Int.mul_comm ay bx
  have h3 := Int.mul_comm bx b_y
  have h4 := Int.mul_comm ax ay
  omega

theorem compare_neg (x : Int) : Lib.compareInt (-x) 0 = - Lib.compareInt x 0 := by
  unfold Lib.compareInt
  split <;> split <;> (try split) <;> omega

theorem onSeg_swap (px py ax ay bx b_y : Int) : onSeg px py bx b_y ax ay = onSeg px py ax ay bx b_y := by
  unfold onSeg
  rw [cross_swap, Int.min_comm bx, Int.max_comm bx, Int.min_comm b_y, Int.max_comm b_y]
  have : decide (-cross ax ay bx b_y px py = 0) = decide (cross ax ay bx b_y px py = 0) := by
    rw [decide_eq_decide]; omega
  rw [this]

theorem parted_swap (ax ay bx b_y cx cy dx dy : Int) : parted bx b_y ax ay cx cy dx dy = parted ax ay bx b_y cx cy dx dy := by
  unfold parted
  rw [cross_swap, cross_swap ax, compare_neg, compare_neg, Int.neg_mul_neg]

theorem parted_comm (ax ay bx b_y cx cy dx dy : Int) : parted ax ay bx b_y dx dy cx cy = parted ax ay bx b_y cx cy dx dy := by
  unfold parted
  rw [Int.mul_comm]

def val : Option (Int × Int × Int) → Int
  | none => 3
  | some (f, _, _) => f

theorem scan_turn (f0 f1 f2 f3 : Bool) (x0 y0 x1 y1 x2 y2 x3 y3 : Int) :
    val ([(f2, x2, y2), (f3, x3, y3), (f0, x0, y0), (f1, x1, y1)].foldl scanStep (some (0, 0, 0))) = val ([(f0, x0, y0), (f1, x1, y1), (f2, x2, y2), (f3, x3, y3)].foldl scanStep (some (0, 0, 0))) := by
  cases f0 <;> cases f1 <;> cases f2 <;> cases f3 <;> simp only [List.foldl, scanStep, val, if_true] <;> grind [scanStep, val]

theorem scan_swap (f0 f1 f2 f3 : Bool) (x0 y0 x1 y1 x2 y2 x3 y3 : Int) :
    val ([(f1, x1, y1), (f0, x0, y0), (f2, x2, y2), (f3, x3, y3)].foldl scanStep (some (0, 0, 0))) = val ([(f0, x0, y0), (f1, x1, y1), (f2, x2, y2), (f3, x3, y3)].foldl scanStep (some (0, 0, 0))) := by
  cases f0 <;> cases f1 <;> cases f2 <;> cases f3 <;> simp only [List.foldl, scanStep, val, if_true] <;> grind [scanStep, val]

theorem meetS_val (ax ay bx b_y cx cy dx dy : Int) : meetS ax ay bx b_y cx cy dx dy =
    if (parted ax ay bx b_y cx cy dx dy && parted cx cy dx dy ax ay bx b_y) = true then 2 else val ((items ax ay bx b_y cx cy dx dy).foldl scanStep (some (0, 0, 0))) := by
  unfold meetS
  have : scanUpto (items ax ay bx b_y cx cy dx dy) 4 = (items ax ay bx b_y cx cy dx dy).foldl scanStep (some (0, 0, 0)) := rfl
  rw [this]
  split <;> (try rfl)

theorem meetS_turn (ax ay bx b_y cx cy dx dy : Int) : meetS cx cy dx dy ax ay bx b_y = meetS ax ay bx b_y cx cy dx dy := by
  rw [meetS_val, meetS_val, Bool.and_comm]
  unfold items
  rw [scan_turn]

theorem meetS_swap (ax ay bx b_y cx cy dx dy : Int) : meetS bx b_y ax ay cx cy dx dy = meetS ax ay bx b_y cx cy dx dy := by
  rw [meetS_val, meetS_val, parted_swap, parted_comm cx cy dx dy]
  unfold items
  rw [scan_swap, onSeg_swap cx, onSeg_swap dx]

def allV (ax ay bx b_y cx cy dx dy : Int) : Bool := valid ax ay && (valid bx b_y && (valid cx cy && valid dx dy))

theorem allV_small {ax ay bx b_y cx cy dx dy : Int} (h : allV ax ay bx b_y cx cy dx dy = true) : (Small ax ∧ Small ay) ∧ (Small bx ∧ Small b_y) ∧ (Small cx ∧ Small cy) ∧ (Small dx ∧ Small dy) := by
  simp only [allV, Bool.and_eq_true] at h
  exact ⟨valid_small h.1, valid_small h.2.1, valid_small h.2.2.1, valid_small h.2.2.2⟩

/-- What Meet returns: the value, the error. -/
def meetV (ax ay bx b_y cx cy dx dy : Int) : Int := if allV ax ay bx b_y cx cy dx dy = true then meetS ax ay bx b_y cx cy dx dy else 0
def meetE (ax ay bx b_y cx cy dx dy : Int) : Int := if allV ax ay bx b_y cx cy dx dy = true then 0 else 1

theorem allV_turn (ax ay bx b_y cx cy dx dy : Int) : allV cx cy dx dy ax ay bx b_y = allV ax ay bx b_y cx cy dx dy := by
  unfold allV
  cases valid ax ay <;> cases valid bx b_y <;> cases valid cx cy <;> cases valid dx dy <;> rfl

theorem allV_swap (ax ay bx b_y cx cy dx dy : Int) : allV bx b_y ax ay cx cy dx dy = allV ax ay bx b_y cx cy dx dy := by
  unfold allV
  cases valid ax ay <;> cases valid bx b_y <;> cases valid cx cy <;> cases valid dx dy <;> rfl

end Go.Proofs.Ytiebbbeijlfedaa
