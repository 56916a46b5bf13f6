/- Texts merged: GQ. -/
import Derived.Test.YtpknllbglppjcaaKE
import Derived.RangeFuncBox
import Derived.Test.YtpknllbglppjcaaGA
import Derived.Laws.OwnMore
import Derived.Test.YtpknllbglppjcaaXA
import Derived.Test.YtpknllbglppjcaaCA
import Derived.Sort.QuietIn
import Derived.Laws.MakeOwn
import Derived.ArgAppend
import Derived.Test.YtpknllbglppjcaaW4
import Derived.Test.YtpknllbglppjcaaWB
import Derived.Test.YtpknllbglppjcaaWC
import Derived.Laws.AppendOwn
import Derived.Test.YtpknllbglppjcaaQB
/- The abstract machine, part KC. -/
/- Walks: bends. -/
namespace Go.Proofs.Ytpknllbglppjcaa
open Go Go.RowKit Go.Proofs Go.Shelf

/-- Which way a corner bends. -/
def bendS (xs ys : Nat → Int) (n x : Nat) : Int := if 0 < cross (xs ((x + n - 1) % n)) (ys ((x + n - 1) % n)) (xs x) (ys x) (xs ((x + 1) % n)) (ys ((x + 1) % n)) then 1 else -1

attribute [local go_sem] Oper.semAt_some

end Go.Proofs.Ytpknllbglppjcaa

/- Walks: laid. -/
namespace Go.Proofs.Ytpknllbglppjcaa
open Go Go.RowKit Go.Proofs

/-- The corner on which a setting lays a corner. -/
def layI (s : Int) (b : Bool) (n i : Int) : Int := if b then (if Plain.ed s true n i + 1 < n then Plain.ed s true n i + 1 else 0) else Plain.ed s false n i

end Go.Proofs.Ytpknllbglppjcaa

/- Walks: congruent. -/
namespace Go.Proofs.Ytpknllbglppjcaa
open Go Go.RowKit Go.Proofs

def layN (n s : Nat) (b : Bool) (i : Nat) : Nat := (layI s b n i).toNat

/-- Do the corners i and k lie as they must? -/
def congSq (xp yp xq yq : Nat → Int) (n s : Nat) (b : Bool) (i k : Nat) : Prop := square (xp i) (yp i) (xp k) (yp k) = square (xq (layN n s b i)) (yq (layN n s b i)) (xq (layN n s b k)) (yq (layN n s b k))
def congBd (xp yp xq yq : Nat → Int) (n s : Nat) (b : Bool) (i : Nat) : Prop := bendS xp yp n i = bendS xq yq n (layN n s b i)
instance (xp yp xq yq : Nat → Int) (n s : Nat) (b : Bool) (i k : Nat) : Decidable (congSq xp yp xq yq n s b i k) := by unfold congSq; infer_instance
instance (xp yp xq yq : Nat → Int) (n s : Nat) (b : Bool) (i : Nat) : Decidable (congBd xp yp xq yq n s b i) := by unfold congBd; infer_instance
end Go.Proofs.Ytpknllbglppjcaa

/- The abstract machine, part XB. -/
/- The iterator over the increasing lists: its contract. -/
namespace Go.Proofs.Ytpknllbglppjcaa
open Go Go.RowKit Go.Proofs Go.Abs Go.Plain

attribute [local go_sem] Oper.semAt_some

def SC (N s : Nat) (xs : List (Nat × (Nat → Nat))) : Prop := ∀ u, Cho N s u → ∃ x ∈ xs, Same s u x.2
end Go.Proofs.Ytpknllbglppjcaa

/- Walks: Clone of a row of numbers. -/
namespace Go.Proofs.Ytpknllbglppjcaa
open Go Go.RowKit Go.Proofs Go.Abs Go.Plain

end Go.Proofs.Ytpknllbglppjcaa

/- How two segments meet: it does not depend on their order, nor on that of the ends of one. -/
namespace Go.Proofs.Ytpknllbglppjcaa
open Go Go.RowKit Go.Proofs

theorem cross_swap (ax ay bx b_y px py : Int) : cross bx b_y ax ay px py = - cross ax ay bx b_y px py := by
  unfold cross
  simp only [Int.sub_mul, Int.mul_sub]
  have h1 := Int.mul_comm ax b_y
  have h2 := Int.mul_comm ay bx
  have h3 := Int.mul_comm bx b_y
  have h4 := Int.mul_comm ax ay
  omega

theorem compare_neg (x : Int) : Lib.compareInt (-x) 0 = - Lib.compareInt x 0 := by
  unfold Lib.compareInt
  split <;> split <;> (try split) <;> omega

theorem onSeg_swap (px py ax ay bx b_y : Int) : onSeg px py bx b_y ax ay = onSeg px py ax ay bx b_y := by
  unfold onSeg
  rw [cross_swap, Int.min_comm bx, Int.max_comm bx, Int.min_comm b_y, Int.max_comm b_y]
  have : decide (-cross ax ay bx b_y px py = 0) = decide (cross ax ay bx b_y px py = 0) := by
    rw [decide_eq_decide]; omega
  rw [this]

theorem parted_swap (ax ay bx b_y cx cy dx dy : Int) : parted bx b_y ax ay cx cy dx dy = parted ax ay bx b_y cx cy dx dy := by
  unfold parted
  rw [cross_swap, cross_swap ax, compare_neg, compare_neg, Int.neg_mul_neg]

theorem parted_comm (ax ay bx b_y cx cy dx dy : Int) : parted ax ay bx b_y dx dy cx cy = parted ax ay bx b_y cx cy dx dy := by
  unfold parted
  rw [Int.mul_comm]

def val : Option (Int × Int × Int) → Int
  | none => 3
  | some (f, _, _) => f

theorem scan_turn (f0 f1 f2 f3 : Bool) (x0 y0 x1 y1 x2 y2 x3 y3 : Int) :
    val ([(f2, x2, y2), (f3, x3, y3), (f0, x0, y0), (f1, x1, y1)].foldl scanStep (some (0, 0, 0))) = val ([(f0, x0, y0), (f1, x1, y1), (f2, x2, y2), (f3, x3, y3)].foldl scanStep (some (0, 0, 0))) := by
  cases f0 <;> cases f1 <;> cases f2 <;> cases f3 <;> simp only [List.foldl, scanStep, val, if_true] <;> grind [scanStep, val]

theorem scan_swap (f0 f1 f2 f3 : Bool) (x0 y0 x1 y1 x2 y2 x3 y3 : Int) :
    val ([(f1, x1, y1), (f0, x0, y0), (f2, x2, y2), (f3, x3, y3)].foldl scanStep (some (0, 0, 0))) = val ([(f0, x0, y0), (f1, x1, y1), (f2, x2, y2), (f3, x3, y3)].foldl scanStep (some (0, 0, 0))) := by
  cases f0 <;> cases f1 <;> cases f2 <;> cases f3 <;> simp only [List.foldl, scanStep, val, if_true] <;> grind [scanStep, val]

theorem meetS_val (ax ay bx b_y cx cy dx dy : Int) : meetS ax ay bx b_y cx cy dx dy =
    if (parted ax ay bx b_y cx cy dx dy && parted cx cy dx dy ax ay bx b_y) = true then 2 else val ((items ax ay bx b_y cx cy dx dy).foldl scanStep (some (0, 0, 0))) := by
  unfold meetS
  have : scanUpto (items ax ay bx b_y cx cy dx dy) 4 = (items ax ay bx b_y cx cy dx dy).foldl scanStep (some (0, 0, 0)) := rfl
  rw [this]
  split <;> (try rfl)

theorem meetS_turn (ax ay bx b_y cx cy dx dy : Int) : meetS cx cy dx dy ax ay bx b_y = meetS ax ay bx b_y cx cy dx dy := by
  rw [meetS_val, meetS_val, Bool.and_comm]
  unfold items
  rw [scan_turn]

theorem meetS_swap (ax ay bx b_y cx cy dx dy : Int) : meetS bx b_y ax ay cx cy dx dy = meetS ax ay bx b_y cx cy dx dy := by
  rw [meetS_val, meetS_val, parted_swap, parted_comm cx cy dx dy]
  unfold items
  rw [scan_swap, onSeg_swap cx, onSeg_swap dx]

end Go.Proofs.Ytpknllbglppjcaa

/- The abstract machine, part NA. -/
/- The ends that two segments have in common: plain lists. -/
namespace Go.Proofs.Ytpknllbglppjcaa
open Go Go.RowKit Go.Proofs

/-- The ends that both segments have, up to the k-th, each once. -/
def comStep (l : List (Int × Int)) (x : Bool × Int × Int) : List (Int × Int) := if x.1 then (if l.contains x.2 then l else l ++ [x.2]) else l
def comUpto (l : List (Bool × Int × Int)) (k : Nat) : List (Int × Int) := (l.take k).foldl comStep []

/-- The four ends: whether both segments have each. -/
def both (ax ay bx b_y cx cy dx dy : Int) : List (Bool × Int × Int) :=
  [(onSeg ax ay ax ay bx b_y && onSeg ax ay cx cy dx dy, ax, ay), (onSeg bx b_y ax ay bx b_y && onSeg bx b_y cx cy dx dy, bx, b_y), (onSeg cx cy ax ay bx b_y && onSeg cx cy cx cy dx dy, cx, cy), (onSeg dx dy ax ay bx b_y && onSeg dx dy cx cy dx dy, dx, dy)]

theorem onSeg_head (ax ay bx b_y : Int) : onSeg ax ay ax ay bx b_y = true := by
  unfold onSeg cross
  simp only [Int.sub_self, Int.mul_zero, decide_true, Bool.true_and, Bool.and_eq_true, decide_eq_true_eq]
  omega

theorem onSeg_last (ax ay bx b_y : Int) : onSeg bx b_y ax ay bx b_y = true := by
  unfold onSeg cross
  rw [Int.mul_comm (b_y - ay) (bx - ax)]
  simp only [Int.sub_self, decide_true, Bool.true_and, Bool.and_eq_true, decide_eq_true_eq]
  omega

theorem both_items (ax ay bx b_y cx cy dx dy : Int) : both ax ay bx b_y cx cy dx dy = items ax ay bx b_y cx cy dx dy := by
  unfold both items
  rw [onSeg_head, onSeg_last, onSeg_head, onSeg_last]
  simp

theorem compare_zero (x : Int) (h : x = 0) : Lib.compareInt x 0 = 0 := by subst h; rfl

theorem parted_off {ax ay bx b_y cx cy dx dy : Int} (h : parted ax ay bx b_y cx cy dx dy = true) : onSeg cx cy ax ay bx b_y = false ∧ onSeg dx dy ax ay bx b_y = false := by
  unfold parted at h
  simp only [decide_eq_true_eq] at h
  constructor
  · unfold onSeg
    by_cases e : cross ax ay bx b_y cx cy = 0
    · rw [compare_zero _ e] at h; simp at h
    · simp [e]
  · unfold onSeg
    by_cases e : cross ax ay bx b_y dx dy = 0
    · rw [compare_zero _ e] at h; simp at h
    · simp [e]

theorem com_scan (f0 f1 f2 f3 : Bool) (x0 y0 x1 y1 x2 y2 x3 y3 : Int) :
    val ([(f0, x0, y0), (f1, x1, y1), (f2, x2, y2), (f3, x3, y3)].foldl scanStep (some (0, 0, 0))) =
      if 2 ≤ ([(f0, x0, y0), (f1, x1, y1), (f2, x2, y2), (f3, x3, y3)].foldl comStep []).length then 3
      else if ([(f0, x0, y0), (f1, x1, y1), (f2, x2, y2), (f3, x3, y3)].foldl comStep []).length = 1 then 1 else 0 := by
  cases f0 <;> cases f1 <;> cases f2 <;> cases f3 <;> simp [List.foldl, scanStep, val, comStep] <;> grind [scanStep, val, comStep]

theorem meetS_com (ax ay bx b_y cx cy dx dy : Int) : meetS ax ay bx b_y cx cy dx dy =
    if 2 ≤ (comUpto (both ax ay bx b_y cx cy dx dy) 4).length then 3
    else if (comUpto (both ax ay bx b_y cx cy dx dy) 4).length = 1 then 1
    else if (parted ax ay bx b_y cx cy dx dy && parted cx cy dx dy ax ay bx b_y) = true then 2 else 0 := by
  have e : comUpto (both ax ay bx b_y cx cy dx dy) 4 = (items ax ay bx b_y cx cy dx dy).foldl comStep [] := by rw [both_items]; rfl
  rw [e, meetS_val]
  cases hp : (parted ax ay bx b_y cx cy dx dy && parted cx cy dx dy ax ay bx b_y)
  · simp only [Bool.false_eq_true, if_false]
    unfold items
    exact com_scan _ _ _ _ _ _ _ _ _ _ _ _
  · simp only [if_true]
    simp only [Bool.and_eq_true] at hp
    obtain ⟨o1, o2⟩ := parted_off hp.1
    obtain ⟨o3, o4⟩ := parted_off hp.2
    unfold items
    rw [o1, o2, o3, o4]
    rfl

end Go.Proofs.Ytpknllbglppjcaa

/- Walks: the reference's meet. -/
namespace Go.Proofs.Ytpknllbglppjcaa
open Go Go.RowKit Go.Proofs

theorem grown_cell {w1 w2 : World} {base b o : Nat} {row : Option Nat} {v : Value} (hb : b < base) (hg : w1.grownBy w2 row) (hr : ∀ k, row = some k → base ≤ k) (h : w1.cell? ⟨b, o, none⟩ = some v) : w2.cell? ⟨b, o, none⟩ = some v :=
  hg.cell h (fun e => by have := hr b e.symm; omega)

theorem Pts.grown {w w1 w2 : World} {ax ay bx b_y cx cy dx dy : Int} {base : Nat} {row : Option Nat} (h : Pts w ax ay bx b_y cx cy dx dy w1) (hb : w.heap.size + 4 ≤ base) (hg : w1.grownBy w2 row) (hr : ∀ k, row = some k → base ≤ k) : Pts w ax ay bx b_y cx cy dx dy w2 :=
  ⟨h.b.grown hg (by have := h.n; omega) (fun k hk => by have := hr k hk; omega), Nat.le_trans h.n hg.size, grown_cell (by omega) hg hr h.c0, grown_cell (by omega) hg hr h.c1, grown_cell (by omega) hg hr h.c2, grown_cell (by omega) hg hr h.c3,
    grown_cell (by omega) hg hr h.c4, grown_cell (by omega) hg hr h.c5, grown_cell (by omega) hg hr h.c6, grown_cell (by omega) hg hr h.c7⟩

end Go.Proofs.Ytpknllbglppjcaa

/- The abstract machine, part XC. -/
/- Walks: leastBlock. -/
namespace Go.Proofs.Ytpknllbglppjcaa
open Go Go.RowKit Go.Proofs Go.Abs Go.Plain

attribute [local go_sem] Oper.semAt_some

/-- What stands between two sizes. -/
structure MidB (xs ys : Nat → Int) (w : World) (v : Value) (n s : Nat) (Ds : List Nat) (W : World) : Prop where
  box : Boxed W w.heap.size 32 v
  res : Boxed W (w.heap.size + 1) 38 (.slice none 0 0)
  bel : Below w.heap.size w W
  nod : Ds.Nodup
  opn : Opens W Ds
  far : ∀ D ∈ Ds, w.heap.size + 2 ≤ D
  big : w.heap.size + 2 ≤ W.heap.size
  one : 1 ≤ s
  few : s ≤ n
  less : ∀ t g, t < s → Cho n t g → ¬ Blk xs ys (lst t g)

/-- What is known between two rounds; what a round leaves that ends all. -/
def IB (xs ys : Nat → Int) (w : World) (v0 : Value) (s : Nat) (Ds : List Nat) (z : Nat) (pre : List (Nat × (Nat → Nat))) (X : World) : Prop :=
  (∀ x ∈ pre, ¬ Blk xs ys (lst s x.2)) ∧ (X.heap[w.heap.size]? = some (.cells #[v0] 32 (0, 0)) ∧ (X.heap[w.heap.size + 1]? = some (.cells #[.slice none 0 0] 38 (0, 0)) ∧ (Below w.heap.size w X ∧ (Opens X Ds ∧ z ≤ X.heap.size))))

end Go.Proofs.Ytpknllbglppjcaa

/- Walks: Exit. -/
namespace Go.Proofs.Ytpknllbglppjcaa
open Go Go.RowKit Go.Proofs Go.Abs Go.Plain

end Go.Proofs.Ytpknllbglppjcaa

/- Walks: Exit of no normals; the reference's Frees. -/
namespace Go.Proofs.Ytpknllbglppjcaa
open Go Go.RowKit Go.Proofs Go.Abs Go.Plain

end Go.Proofs.Ytpknllbglppjcaa

/- Walks: the reference's exit. -/
namespace Go.Proofs.Ytpknllbglppjcaa
open Go Go.RowKit Go.Proofs Go.Abs Go.Plain

end Go.Proofs.Ytpknllbglppjcaa

/- The abstract machine, part KD. -/
/- Walks: Settings. -/
namespace Go.Proofs.Ytpknllbglppjcaa
open Go Go.RowKit Go.Proofs

end Go.Proofs.Ytpknllbglppjcaa

/- Settings: the plain law of congruent lists. -/
namespace Go.Proofs.Ytpknllbglppjcaa
open Go Go.RowKit Go.Proofs

section
variable {xp yp xq yq xr yr : Nat → Int} {n s t : Nat} {b c : Bool}

end

end Go.Proofs.Ytpknllbglppjcaa

/- Walks: among. -/
namespace Go.Proofs.Ytpknllbglppjcaa
open Go Go.RowKit Go.Proofs

end Go.Proofs.Ytpknllbglppjcaa

/- Settings and ValidOutline of any slice of points, nil too. -/
namespace Go.Proofs.Ytpknllbglppjcaa
open Go Go.RowKit Go.Proofs

/-- The value is a slice, nil or not, that holds the points of L. -/
def SlV (w : World) (v : Value) (L : List (Int × Int)) : Prop := ∃ a cap, v = .slice a L.length cap ∧ L.length ≤ 9223372036854775807 ∧ ((∃ b off, a = some ⟨b, off, none⟩ ∧ PtsAt w b off L) ∨ (a = none ∧ cap = 0 ∧ L = []))

theorem SlV.keep {w w' : World} {v : Value} {L : List (Int × Int)} (h : SlV w v L) (hb : Below w.heap.size w w') : SlV w' v L := by
  obtain ⟨a, cap, rfl, hl, h⟩ := h
  refine ⟨a, cap, rfl, hl, h.imp ?_ id⟩
  rintro ⟨b, off, rfl, hp⟩
  exact ⟨b, off, rfl, hp.keep hb⟩

theorem vOut_sl {w : World} {v : Value} {L : List (Int × Int)} (h : SlV w v L) : Calls Try.prog 29 #[v] w fun e w' => e = .returned (.bool (vOut L)) ∧ Below w.heap.size w w' := by
  obtain ⟨a, cap, rfl, hl, ⟨b, off, rfl, hp⟩ | ⟨rfl, rfl, rfl⟩⟩ := h
  · exact validOutline_any b off cap L hl w hp
  · exact validOutline_nil w

end Go.Proofs.Ytpknllbglppjcaa

