/- The ends that two segments have in common: plain lists. -/
import Derived.Test.YtlocdadkhdcedaaM2
namespace Go.Proofs.Ytlocdadkhdcedaa
open Go Go.RowKit Go.Proofs

/-- The ends that both segments have, up to the k-th, each once. -/
def comStep (l : List (Int × Int)) (x : Bool × Int × Int) : List (Int × Int) := if x.1 then (if l.contains x.2 then l else l ++ [x.2]) else l
def comUpto (l : List (Bool × Int × Int)) (k : Nat) : List (Int × Int) := (l.take k).foldl comStep []

theorem comUpto_succ {l : List (Bool × Int × Int)} {k : Nat} {x : Bool × Int × Int} (h : l[k]? = some x) : comUpto l (k + 1) = comStep (comUpto l k) x := by
  unfold comUpto
  rw [List.take_add_one, h, List.foldl_append]
  rfl

theorem comStep_old {L : List (Int × Int)} {x y : Int} (h : L.contains (x, y) = true) : comStep L (true && true, x, y) = L := by
  show (if L.contains (x, y) = true then L else L ++ [(x, y)]) = L
  rw [if_pos h]

theorem comStep_new {L : List (Int × Int)} {x y : Int} (h : L.contains (x, y) = false) : comStep L (true && true, x, y) = L ++ [(x, y)] := by
  show (if L.contains (x, y) = true then L else L ++ [(x, y)]) = L ++ [(x, y)]
  rw [if_neg (by rw [h]; simp)]

/-- The four ends: whether both segments have each. -/
def both (ax ay bx b_y cx cy dx dy : Int) : List (Bool × Int × Int) :=
  [(onSeg ax ay ax ay bx b_y && onSeg ax ay cx cy dx dy, ax, ay), (onSeg bx b_y ax ay bx b_y && onSeg bx b_y cx cy dx dy, bx, b_y), (onSeg cx cy ax ay bx b_y && onSeg cx cy cx cy dx dy, cx, cy), (onSeg dx dy ax ay bx b_y && onSeg dx dy cx cy dx dy, dx, dy)]

theorem onSeg_head (ax ay bx b_y : Int) : onSeg ax ay ax ay bx b_y = true := by
  unfold onSeg cross
  simp only [Int.sub_self, Int.mul_zero, decide_true, Bool.true_and, Bool.and_eq_true, decide_eq_true_eq]
  omega

theorem onSeg_last (ax ay bx b_y : Int) : onSeg bx b_y ax ay bx b_y = true := by
  unfold onSeg cross
  rw [Int.mul_comm (b_y - ay) (bx - ax)]
  simp only [Int.sub_self, decide_true, Bool.true_and, Bool.and_eq_true, decide_eq_true_eq]
  omega

theorem both_items (ax ay bx b_y cx cy dx dy : Int) : both ax ay bx b_y cx cy dx dy = items ax ay bx b_y cx cy dx dy := by
  unfold both items
  rw [onSeg_head, onSeg_last, onSeg_head, onSeg_last]
  simp

theorem compare_zero (x : Int) (h : x = 0) : Lib.compareInt x 0 = 0 := by subst h; rfl

theorem parted_off {ax ay bx b_y cx cy dx dy : Int} (h : parted ax ay bx b_y cx cy dx dy = true) : onSeg cx cy ax ay bx b_y = false ∧ onSeg dx dy ax ay bx b_y = false := by
  unfold parted at h
  simp only [decide_eq_true_eq] at h
  constructor
  · unfold onSeg
    by_cases e : cross ax ay bx b_y cx cy = 0
    · rw [compare_zero _ e] at h; simp at h
    · simp [e]
  · unfold onSeg
    by_cases e : cross ax ay bx b_y dx dy = 0
    · rw [compare_zero _ e] at h; simp at h
    · simp [e]

theorem com_scan (f0 f1 f2 f3 : Bool) (x0 y0 x1 y1 x2 y2 x3 y3 : Int) :
    val ([(f0, x0, y0), (f1, x1, y1), (f2, x2, y2), (f3, x3, y3)].foldl scanStep (some (0, 0, 0))) =
      if 2 ≤ ([(f0, x0, y0), (f1, x1, y1), (f2, x2, y2), (f3, x3, y3)].foldl comStep []).length then 3
      else if ([(f0, x0, y0), (f1, x1, y1), (f2, x2, y2), (f3, x3, y3)].foldl comStep []).length = 1 then 1 else 0 := by
  cases f0 <;> cases f1 <;> cases f2 <;> cases f3 <;> simp [List.foldl, scanStep, val, comStep] <;> grind [scanStep, val, comStep]

theorem meetS_com (ax ay bx b_y cx cy dx dy : Int) : meetS ax ay bx b_y cx cy dx dy =
    if 2 ≤ (comUpto (both ax ay bx b_y cx cy dx dy) 4).length then 3
    else if (comUpto (both ax ay bx b_y cx cy dx dy) 4).length = 1 then 1
    else if (parted ax ay bx b_y cx cy dx dy && parted cx cy dx dy ax ay bx b_y) = true then 2 else 0 := by
  have e : comUpto (both ax ay bx b_y cx cy dx dy) 4 = (items ax ay bx b_y cx cy dx dy).foldl comStep [] := by rw [both_items]; rfl
  rw [e, meetS_val]
  cases hp : (parted ax ay bx b_y cx cy dx dy && parted cx cy dx dy ax ay bx b_y)
  · simp only [Bool.false_eq_true, if_false]
    unfold items
    exact com_scan _ _ _ _ _ _ _ _ _ _ _ _
  · simp only [if_true]
    simp only [Bool.and_eq_true] at hp
    obtain ⟨o1, o2⟩ := parted_off hp.1
    obtain ⟨o3, o4⟩ := parted_off hp.2
    unfold items
    rw [o1, o2, o3, o4]
    rfl

end Go.Proofs.Ytlocdadkhdcedaa
