/- The abstract machine, part GrLA. -/
import Derived.Test.YtkmcboincjohlaaGreatProg
import Derived.WalkKit
import Derived.WalkSpells
import Derived.Lib.Small
import Derived.Deep.RegionHeld3
import Derived.Lib.Hide
import Derived.Deep.MidRow
import Derived.Deep.QuietTactic
import Derived.BigQuiet
import Derived.Laws.AppendOwn
import Derived.Laws.OwnMore
import Derived.Laws.CopyOwn
import Derived.StillTailTactics
import Derived.RangeFuncBox
import Derived.Deep.Upon
import Derived.Deep.Cut
import Derived.Deep.CutBlock
import Derived.OwnWalk
import Derived.Deep.WholeRow
/- Walks: the least functions of the plane. -/
namespace Go.Proofs.YtkmcboincjohlaaGreat
open Go Go.RowKit Go.Proofs

abbrev pt (x y : Int) : Value := .agg #[.int .i64 x, .int .i64 y]

set_option maxHeartbeats 400000 in
theorem compare_any (x y : Int) (w : World) :
    Calls Tryz.prog 85 #[.int .i64 x, .int .i64 y] w fun e w' => e = .returned (.int .i64 (Lib.compareInt x y)) ∧ w' = w := by
  go_enter Tryz.func85, Tryz.ntmps85
  go_wp2
  all_goals (go_ret; refine ⟨?_, rfl⟩; unfold Lib.compareInt; (repeat' split) <;> first | rfl | (exfalso; omega))

/-- A coordinate, or the difference of two. -/
def Small (x : Int) : Prop := -8192 ≤ x ∧ x ≤ 8192

theorem mul_le {a b A B : Int} (ha : -A ≤ a ∧ a ≤ A) (hb : -B ≤ b ∧ b ≤ B) : -(A * B) ≤ a * b ∧ a * b ≤ A * B := by
  have h1 : a.natAbs ≤ A.natAbs := by omega
  have h2 : b.natAbs ≤ B.natAbs := by omega
  have h3 := Nat.mul_le_mul h1 h2
  rw [← Int.natAbs_mul, ← Int.natAbs_mul] at h3
  have h4 : 0 ≤ A * B := Int.mul_nonneg (by omega) (by omega)
  omega

theorem w64 (n : Int) (h : -9223372036854775808 ≤ n ∧ n ≤ 9223372036854775807) : wrap64 n = n := by unfold wrap64; omega

theorem wi64 (n : Int) (h : -9223372036854775808 ≤ n ∧ n ≤ 9223372036854775807) : IntKind.i64.wrap n = n := by
  rw [IntKind.wrap_i64]; omega

def cross (ax ay bx b_y cx cy : Int) : Int := (bx - ax) * (cy - ay) - (b_y - ay) * (cx - ax)

theorem cross_bound {ax ay bx b_y cx cy : Int} (h1 : Small ax) (h2 : Small ay) (h3 : Small bx) (h4 : Small b_y) (h5 : Small cx) (h6 : Small cy) :
    (-268435456 ≤ (bx - ax) * (cy - ay) ∧ (bx - ax) * (cy - ay) ≤ 268435456) ∧ (-268435456 ≤ (b_y - ay) * (cx - ax) ∧ (b_y - ay) * (cx - ax) ≤ 268435456) := by
  unfold Small at *
  exact ⟨mul_le (A := 16384) (B := 16384) (by omega) (by omega), mul_le (A := 16384) (B := 16384) (by omega) (by omega)⟩

set_option maxHeartbeats 400000 in
theorem cross_any (ax ay bx b_y cx cy : Int) (w : World) (h1 : Small ax) (h2 : Small ay) (h3 : Small bx) (h4 : Small b_y) (h5 : Small cx) (h6 : Small cy) :
    Calls Tryz.prog 89 #[pt ax ay, pt bx b_y, pt cx cy] w fun e w' => e = .returned (.int .i64 (cross ax ay bx b_y cx cy)) ∧ Below w.heap.size w w' := by
  have hb := cross_bound h1 h2 h3 h4 h5 h6
  have e1 : wrap64 (wrap64 (wrap64 (bx - ax) * wrap64 (cy - ay)) - wrap64 (wrap64 (b_y - ay) * wrap64 (cx - ax))) = cross ax ay bx b_y cx cy := by
    unfold Small at *
    rw [w64 (bx - ax) (by omega), w64 (cy - ay) (by omega), w64 (b_y - ay) (by omega), w64 (cx - ax) (by omega),
      w64 ((bx - ax) * (cy - ay)) (by omega), w64 ((b_y - ay) * (cx - ax)) (by omega), w64 _ (by omega)]
    rfl
  clear hb h1 h2 h3 h4 h5 h6
  go_enter Tryz.func89, Tryz.ntmps89
  go_wp2
  go_ret
  refine ⟨?_, ?_⟩
  · show Ending.returned (Value.int IntKind.i64 (wrap64 _)) = _
    rw [← e1]
  · exact (((Below.refl _ _).alloc (by simp) _).alloc (by simp) _).alloc (by simp; omega) _

def valid (x y : Int) : Bool := decide (0 ≤ x) && decide (x ≤ 4096) && decide (0 ≤ y) && decide (y ≤ 4096)

set_option maxHeartbeats 400000 in
theorem validPoint_any (x y : Int) (w : World) :
    Calls Tryz.prog 87 #[pt x y] w fun e w' => e = .returned (.bool (valid x y)) ∧ Below w.heap.size w w' := by
  obtain ⟨v, hv⟩ : ∃ v, valid x y = v := ⟨_, rfl⟩
  rw [hv]
  go_enter Tryz.func87, Tryz.ntmps87
  go_wp2
  all_goals go_ret
  all_goals refine ⟨?_, (Below.refl _ _).alloc (Nat.le_refl _) _⟩
  all_goals rw [← hv]; unfold valid
  all_goals simp [*]
  all_goals (intros; omega)

def parted (ax ay bx b_y cx cy dx dy : Int) : Bool := decide (Lib.compareInt (cross ax ay bx b_y cx cy) 0 * Lib.compareInt (cross ax ay bx b_y dx dy) 0 < 0)

theorem compareInt_bound (x y : Int) : -1 ≤ Lib.compareInt x y ∧ Lib.compareInt x y ≤ 1 := by
  unfold Lib.compareInt
  split
  · decide
  · split <;> decide

end Go.Proofs.YtkmcboincjohlaaGreat

/- Walks: parted. -/
namespace Go.Proofs.YtkmcboincjohlaaGreat
open Go Go.RowKit Go.Proofs

theorem lt_of_cell {w : World} {b o : Nat} {v : Value} (h : w.cell? ⟨b, o, none⟩ = some v) : b < w.heap.size := World.block_lt_of_cell? w _ h

theorem keep_cell {w w' : World} {b o : Nat} {v : Value} (hb : Below w.heap.size w w') (h : w.cell? ⟨b, o, none⟩ = some v) : w'.cell? ⟨b, o, none⟩ = some v := (hb.cell (lt_of_cell h)).trans h

theorem keep_below {a w w' : World} (h : Below a.heap.size a w) (hb : Below w.heap.size w w') : Below a.heap.size a w' := h.trans (hb.mono h.size)

abbrev ptObj (x y : Int) : Obj := .cells #[.int .i64 x, .int .i64 y] 96

theorem pt_new (w : World) (x y : Int) : (w.alloc (ptObj x y)).cell? ⟨w.heap.size, 0, none⟩ = some (.int .i64 x) ∧ (w.alloc (ptObj x y)).cell? ⟨w.heap.size, 1, none⟩ = some (.int .i64 y) := by
  constructor <;> go_simp

theorem pt_old (w : World) (o : Obj) {b k : Nat} {v : Value} (h : w.cell? ⟨b, k, none⟩ = some v) : (w.alloc o).cell? ⟨b, k, none⟩ = some v :=
  keep_cell ((Below.refl _ _).alloc (Nat.le_refl _) _) h

theorem pts4 (w : World) (ax ay bx b_y cx cy dx dy : Int) : (fun w' => Below w.heap.size w w' ∧ w'.cell? ⟨w.heap.size, 0, none⟩ = some (.int .i64 ax) ∧ w'.cell? ⟨w.heap.size, 1, none⟩ = some (.int .i64 ay) ∧ w'.cell? ⟨w.heap.size + 1, 0, none⟩ = some (.int .i64 bx) ∧ w'.cell? ⟨w.heap.size + 1, 1, none⟩ = some (.int .i64 b_y) ∧ w'.cell? ⟨w.heap.size + 1 + 1, 0, none⟩ = some (.int .i64 cx) ∧ w'.cell? ⟨w.heap.size + 1 + 1, 1, none⟩ = some (.int .i64 cy) ∧ w'.cell? ⟨w.heap.size + 1 + 1 + 1, 0, none⟩ = some (.int .i64 dx) ∧ w'.cell? ⟨w.heap.size + 1 + 1 + 1, 1, none⟩ = some (.int .i64 dy)) ((((w.alloc (ptObj ax ay)).alloc (ptObj bx b_y)).alloc (ptObj cx cy)).alloc (ptObj dx dy)).drew := by
  have s1 : ∀ (v : World) (o : Obj), (v.alloc o).heap.size = v.heap.size + 1 := fun v o => by simp
  have n1 := pt_new w ax ay
  have n2 := pt_new (w.alloc (ptObj ax ay)) bx b_y
  have n3 := pt_new ((w.alloc (ptObj ax ay)).alloc (ptObj bx b_y)) cx cy
  have n4 := pt_new (((w.alloc (ptObj ax ay)).alloc (ptObj bx b_y)).alloc (ptObj cx cy)) dx dy
  simp only [s1] at n2 n3 n4
  have hb : Below w.heap.size w ((((w.alloc (ptObj ax ay)).alloc (ptObj bx b_y)).alloc (ptObj cx cy)).alloc (ptObj dx dy)) :=
    ((((Below.refl _ _).alloc (by simp) _).alloc (by simp) _).alloc (by simp; omega) _).alloc (by simp; omega) _
  exact ⟨hb.drew, pt_old _ _ (pt_old _ _ (pt_old _ _ n1.1)), pt_old _ _ (pt_old _ _ (pt_old _ _ n1.2)), pt_old _ _ (pt_old _ _ n2.1), pt_old _ _ (pt_old _ _ n2.2), pt_old _ _ n3.1, pt_old _ _ n3.2, n4.1, n4.2⟩

set_option maxHeartbeats 1000000 in
theorem parted_any (ax ay bx b_y cx cy dx dy : Int) (w : World) (h1 : Small ax) (h2 : Small ay) (h3 : Small bx) (h4 : Small b_y) (h5 : Small cx) (h6 : Small cy) (h7 : Small dx) (h8 : Small dy) :
    Calls Tryz.prog 132 #[pt ax ay, pt bx b_y, pt cx cy, pt dx dy] w fun e w' => e = .returned (.bool (parted ax ay bx b_y cx cy dx dy)) ∧ Below w.heap.size w w' := by
  go_enter Tryz.func132, Tryz.ntmps132
  go_wp2_with fail
  go_region_held3 (fun w' => Below w.heap.size w w' ∧ w'.cell? ⟨w.heap.size, 0, none⟩ = some (.int .i64 ax) ∧ w'.cell? ⟨w.heap.size, 1, none⟩ = some (.int .i64 ay) ∧ w'.cell? ⟨w.heap.size + 1, 0, none⟩ = some (.int .i64 bx) ∧ w'.cell? ⟨w.heap.size + 1, 1, none⟩ = some (.int .i64 b_y) ∧ w'.cell? ⟨w.heap.size + 1 + 1, 0, none⟩ = some (.int .i64 cx) ∧ w'.cell? ⟨w.heap.size + 1 + 1, 1, none⟩ = some (.int .i64 cy) ∧ w'.cell? ⟨w.heap.size + 1 + 1 + 1, 0, none⟩ = some (.int .i64 dx) ∧ w'.cell? ⟨w.heap.size + 1 + 1 + 1, 1, none⟩ = some (.int .i64 dy))
    (first
      | exact pts4 _ _ _ _ _ _ _ _ _
      | (go_split_ands
         (repeat' apply And.intro) <;> first | assumption | exact keep_below (by assumption) (by assumption) | exact keep_cell (by assumption) (by assumption)))
    (first
      | (go_at_call 89; refine (cross_any _ _ _ _ _ _ _ (by assumption) (by assumption) (by assumption) (by assumption) (by assumption) (by assumption)).mono ?_; rintro e w' ⟨rfl, hb⟩)
      | (go_at_call 85; refine (compare_any _ _ _).mono ?_; rintro e w' ⟨rfl, rfl⟩))
  go_wp2
  go_ret
  refine ⟨?_, by go_split_ands; assumption⟩
  show Ending.returned (Value.bool (decide (IntKind.i64.wrap (Lib.compareInt (cross ax ay bx b_y cx cy) 0 * Lib.compareInt (cross ax ay bx b_y dx dy) 0) < 0))) = _
  rw [wi64]
  · rfl
  · have := mul_le (compareInt_bound (cross ax ay bx b_y cx cy) 0) (compareInt_bound (cross ax ay bx b_y dx dy) 0)
    omega

end Go.Proofs.YtkmcboincjohlaaGreat

/- Walks: onSegment. -/
namespace Go.Proofs.YtkmcboincjohlaaGreat
open Go Go.RowKit Go.Proofs

theorem pts3 (w : World) (ax ay bx b_y cx cy : Int) : (fun w' => Below w.heap.size w w' ∧ w'.cell? ⟨w.heap.size, 0, none⟩ = some (.int .i64 ax) ∧ w'.cell? ⟨w.heap.size, 1, none⟩ = some (.int .i64 ay) ∧ w'.cell? ⟨w.heap.size + 1, 0, none⟩ = some (.int .i64 bx) ∧ w'.cell? ⟨w.heap.size + 1, 1, none⟩ = some (.int .i64 b_y) ∧
    w'.cell? ⟨w.heap.size + 1 + 1, 0, none⟩ = some (.int .i64 cx) ∧ w'.cell? ⟨w.heap.size + 1 + 1, 1, none⟩ = some (.int .i64 cy)) (((w.alloc (ptObj ax ay)).alloc (ptObj bx b_y)).alloc (ptObj cx cy)) := by
  have s1 : ∀ (v : World) (o : Obj), (v.alloc o).heap.size = v.heap.size + 1 := fun v o => by simp
  have n1 := pt_new w ax ay
  have n2 := pt_new (w.alloc (ptObj ax ay)) bx b_y
  have n3 := pt_new ((w.alloc (ptObj ax ay)).alloc (ptObj bx b_y)) cx cy
  simp only [s1] at n2 n3
  exact ⟨(((Below.refl _ _).alloc (by simp) _).alloc (by simp) _).alloc (by simp; omega) _, pt_old _ _ (pt_old _ _ n1.1), pt_old _ _ (pt_old _ _ n1.2), pt_old _ _ n2.1, pt_old _ _ n2.2, n3.1, n3.2⟩

def onSeg (px py ax ay bx b_y : Int) : Bool := decide (cross ax ay bx b_y px py = 0) && (decide (min ax bx ≤ px) && (decide (px ≤ max ax bx) && (decide (min ay b_y ≤ py) && decide (py ≤ max ay b_y))))

set_option maxHeartbeats 1000000 in
theorem onSegment_any (px py ax ay bx b_y : Int) (w : World) (h1 : Small ax) (h2 : Small ay) (h3 : Small bx) (h4 : Small b_y) (h5 : Small px) (h6 : Small py) :
    Calls Tryz.prog 133 #[pt px py, pt ax ay, pt bx b_y] w fun e w' => e = .returned (.bool (onSeg px py ax ay bx b_y)) ∧ Below w.heap.size w w' := by
  obtain ⟨v, hv⟩ : ∃ v, onSeg px py ax ay bx b_y = v := ⟨_, rfl⟩
  rw [hv]
  go_enter Tryz.func133, Tryz.ntmps133
  go_wp2_with (first
      | (go_at_call 89; refine (cross_any _ _ _ _ _ _ _ (by assumption) (by assumption) (by assumption) (by assumption) (by assumption) (by assumption)).mono ?_; rintro e w' ⟨rfl, hb⟩
         obtain ⟨b0, c0, c1, c2, c3, c4, c5⟩ := pts3 w px py ax ay bx b_y
         have k0 := keep_cell hb c0
         have k1 := keep_cell hb c1
         have k2 := keep_cell hb c2
         have k3 := keep_cell hb c3
         have k4 := keep_cell hb c4
         have k5 := keep_cell hb c5
         have kb := keep_below b0 hb
         clear c0 c1 c2 c3 c4 c5 b0 hb))
  all_goals go_ret
  all_goals refine ⟨?_, by assumption⟩
  all_goals (subst hv; refine congrArg (fun x => Ending.returned (Value.bool x)) ?_)
  all_goals (show _ = onSeg px py ax ay bx b_y)
  all_goals (unfold onSeg; rw [Bool.eq_iff_iff])
  all_goals simp only [Bool.and_eq_true, decide_eq_true_eq, Bool.false_eq_true, false_iff]
  all_goals omega

end Go.Proofs.YtkmcboincjohlaaGreat

/- Settings: the plain law. -/
namespace Go.Plain

/-- The edge on which a setting lays an edge. -/
def ed (sh : Int) (b : Bool) (n i : Int) : Int :=
  if b then (if sh - i < 0 then sh - i + n else sh - i) else (if sh + i < n then sh + i else sh + i - n)

theorem ed_range {sh n i : Int} {b : Bool} (h1 : 0 ≤ sh) (h2 : sh < n) (h3 : 0 ≤ i) (h4 : i < n) : 0 ≤ ed sh b n i ∧ ed sh b n i < n := by
  unfold ed; cases b <;> simp <;> split <;> omega

theorem mod_lo {x n : Int} (h0 : 0 ≤ x) (h : x < n) : x % n = x := Int.emod_eq_of_lt h0 h

theorem mod_hi {x n : Int} (h0 : n ≤ x) (h : x < 2 * n) : x % n = x - n := by
  have e : x = (x - n) + n := by omega
  rw [e, Int.add_emod_right, Int.emod_eq_of_lt (by omega) (by omega)]
  omega

theorem ed_back {sh n i : Int} (h1 : 0 ≤ sh) (h2 : sh < n) (h3 : 0 ≤ i) (h4 : i < n) : (sh - i + n) % n = ed sh true n i := by
  unfold ed
  simp only [if_true]
  split
  · rw [mod_lo] <;> omega
  · rw [mod_hi] <;> omega

theorem ed_forth {sh n i : Int} (h1 : 0 ≤ sh) (h2 : sh < n) (h3 : 0 ≤ i) (h4 : i < n) : (sh + i) % n = ed sh false n i := by
  unfold ed
  simp only [Bool.false_eq_true, if_false]
  split
  · rw [mod_lo] <;> omega
  · rw [mod_hi] <;> omega

theorem ed_ed {s t n i : Int} {b c : Bool} (_h1 : 0 ≤ s) (_h2 : s < n) (h3 : 0 ≤ t) (h4 : t < n) (h5 : 0 ≤ i) (h6 : i < n) :
    ed t c n (ed s b n i) = ed (ed t c n s) (b != c) n i := by
  unfold ed
  cases b <;> cases c <;> simp <;> (repeat' split) <;> omega

theorem zero_ed {s n : Int} (_h1 : 0 ≤ s) (h2 : s < n) : ed 0 false n s = s := by
  unfold ed
  simp; omega

def inv (s : Int) (b : Bool) (n : Int) : Int := if b then s else (if s = 0 then 0 else n - s)

theorem inv_range {s n : Int} {b : Bool} (h1 : 0 ≤ s) (h2 : s < n) : 0 ≤ inv s b n ∧ inv s b n < n := by
  unfold inv; cases b <;> simp <;> (try split) <;> omega

theorem inv_forth {s n : Int} (h1 : 0 ≤ s) (h2 : s < n) : (n - s) % n = inv s false n := by
  unfold inv
  simp only [Bool.false_eq_true, if_false]
  split
  · rw [mod_hi] <;> omega
  · rw [mod_lo] <;> omega

theorem inv_ed {s n : Int} {b : Bool} (_h1 : 0 ≤ s) (h2 : s < n) : ed (inv s b n) b n s = 0 := by
  unfold ed inv
  cases b <;> simp <;> (repeat' split) <;> omega

end Go.Plain

/- Walks: settings. -/
namespace Go.Proofs.YtkmcboincjohlaaGreat
open Go Go.RowKit Go.Proofs

abbrev st (s : Int) (b : Bool) : Value := .agg #[.int .i64 s, .bool b]

def vset (s n : Int) : Bool := decide (3 ≤ n) && decide (n ≤ 24) && decide (0 ≤ s) && decide (s < n)

abbrev stObj (s : Int) (b : Bool) : Obj := .cells #[.int .i64 s, .bool b] 48

theorem st_new (w : World) (s : Int) (b : Bool) : (w.alloc (stObj s b)).cell? ⟨w.heap.size, 0, none⟩ = some (.int .i64 s) ∧ (w.alloc (stObj s b)).cell? ⟨w.heap.size, 1, none⟩ = some (.bool b) := by
  constructor <;> go_simp

theorem ret_intP {k : IntKind} {a b : Int} (h : a = b) : Ending.returned (.int k a) = .returned (.int k b) := by rw [h]

end Go.Proofs.YtkmcboincjohlaaGreat

/- Walks: Compose. -/
namespace Go.Proofs.YtkmcboincjohlaaGreat
open Go Go.RowKit Go.Proofs

/-- Two settings in their boxes, and room for a third. -/
structure Sts (w : World) (s : Int) (b : Bool) (t : Int) (c : Bool) (r0 r1 : Value) (w' : World) : Prop where
  bel : Below w.heap.size w w'
  n : w.heap.size + 3 ≤ w'.heap.size
  c0 : w'.cell? ⟨w.heap.size, 0, none⟩ = some (.int .i64 s)
  c1 : w'.cell? ⟨w.heap.size, 1, none⟩ = some (.bool b)
  c2 : w'.cell? ⟨w.heap.size + 1, 0, none⟩ = some (.int .i64 t)
  c3 : w'.cell? ⟨w.heap.size + 1, 1, none⟩ = some (.bool c)
  c4 : w'.cell? ⟨w.heap.size + 1 + 1, 0, none⟩ = some r0
  c5 : w'.cell? ⟨w.heap.size + 1 + 1, 1, none⟩ = some r1
  f4 : w'.frozen? ⟨w.heap.size + 1 + 1, 0, none⟩ = false
  f5 : w'.frozen? ⟨w.heap.size + 1 + 1, 1, none⟩ = false

variable {w w1 w2 : World} {s t : Int} {b c : Bool} {r0 r1 : Value}

theorem keep_frozen {w w' : World} {b o : Nat} {v : Bool} {x : Value} (hb : Below w.heap.size w w') (hc : w.cell? ⟨b, o, none⟩ = some x) (h : w.frozen? ⟨b, o, none⟩ = v) : w'.frozen? ⟨b, o, none⟩ = v := (hb.frozen (lt_of_cell hc)).trans h

theorem set_cell {w : World} {p q : Addr} {v x : Value} (hne : p ≠ q) (h : w.cell? p = some x) : (w.setCell q v).cell? p = some x := by
  rw [World.cell?_setCell_other (h := Ne.symm hne)]; exact h

theorem new_cell {w : World} {p : Addr} {v x : Value} (h : w.cell? p = some x) : (w.setCell p v).cell? p = some v := World.cell?_setCell_same _ _ _ h

theorem set_frozen {w : World} {p q : Addr} {v : Value} {x : Bool} (h : w.frozen? p = x) : (w.setCell q v).frozen? p = x := by
  rw [World.frozen?_setCell]; exact h

theorem Sts.keep (h : Sts w s b t c r0 r1 w1) (hb : Below w1.heap.size w1 w2) : Sts w s b t c r0 r1 w2 :=
  ⟨keep_below h.bel hb, Nat.le_trans h.n hb.size, keep_cell hb h.c0, keep_cell hb h.c1, keep_cell hb h.c2, keep_cell hb h.c3, keep_cell hb h.c4, keep_cell hb h.c5, keep_frozen hb h.c4 h.f4, keep_frozen hb h.c5 h.f5⟩

theorem Sts.start (w : World) (s : Int) (b : Bool) (t : Int) (c : Bool) : Sts w s b t c (.int .i64 0) (.bool false) (((w.alloc (stObj s b)).alloc (stObj t c)).alloc (stObj 0 false)) := by
  have s1 : ∀ (v : World) (o : Obj), (v.alloc o).heap.size = v.heap.size + 1 := fun v o => by simp
  have n1 := st_new w s b
  have n2 := st_new (w.alloc (stObj s b)) t c
  have n3 := st_new ((w.alloc (stObj s b)).alloc (stObj t c)) 0 false
  simp only [s1] at n2 n3
  refine ⟨(((Below.refl _ _).alloc (by simp) _).alloc (by simp) _).alloc (by simp; omega) _, by simp, pt_old _ _ (pt_old _ _ n1.1), pt_old _ _ (pt_old _ _ n1.2), pt_old _ _ n2.1, pt_old _ _ n2.2, n3.1, n3.2, ?_, ?_⟩ <;> go_simp

end Go.Proofs.YtkmcboincjohlaaGreat

/- Walks: settings of the program: ValidSetting, Edge, Compose, Inverse; the reference's ValidSetting. -/
namespace Go.Proofs.YtkmcboincjohlaaGreat
open Go Go.RowKit Go.Proofs

set_option maxHeartbeats 400000 in
theorem validSetting_any (s n : Int) (b : Bool) (w : World) :
    Calls Tryz.prog 64 #[st s b, .int .i64 n] w fun e w' => e = .returned (.bool (vset s n)) ∧ Below w.heap.size w w' := by
  obtain ⟨v, hv⟩ : ∃ v, vset s n = v := ⟨_, rfl⟩
  rw [hv]
  go_enter Tryz.func64, Tryz.ntmps64
  go_wp2
  all_goals go_ret
  all_goals refine ⟨?_, (Below.refl _ _).alloc (Nat.le_refl _) _⟩
  all_goals rw [← hv]; unfold vset
  all_goals simp [*]
  all_goals (intros; omega)

theorem ret_intG {k : IntKind} {a b : Int} (h : a = b) : Ending.returned (.int k a) = .returned (.int k b) := by rw [h]

set_option maxHeartbeats 400000 in
theorem edge_any (s n i : Int) (b : Bool) (w : World) (h0 : 3 ≤ n) (hn : n ≤ 24) (h1 : 0 ≤ s) (h2 : s < n) (h3 : 0 ≤ i) (h4 : i < n) :
    Calls Tryz.prog 98 #[st s b, .int .i64 n, .int .i64 i] w fun e w' => e = .returned (.int .i64 (Plain.ed s b n i)) ∧ Below w.heap.size w w' := by
  have e1 := Plain.ed_back h1 h2 h3 h4
  have e2 := Plain.ed_forth h1 h2 h3 h4
  have E1 := Lib.hid e1
  have E2 := Lib.hid e2
  clear e1 e2
  have p1 : 0 ≤ s - i + n := by omega
  have p2 : 0 ≤ s + i := by omega
  have p3 : s - i + n ≤ 48 := by omega
  have p4 : s + i ≤ 48 := by omega
  have p5 : -24 ≤ s - i := by omega
  have p6 : s - i ≤ 24 := by omega
  cases b
  · go_enter Tryz.func98, Tryz.ntmps98
    go_wp2
    go_ret
    exact ⟨ret_intG E2.out, (Below.refl _ _).alloc (Nat.le_refl _) _⟩
  · go_enter Tryz.func98, Tryz.ntmps98
    go_wp2
    go_ret
    exact ⟨ret_intG E1.out, (Below.refl _ _).alloc (Nat.le_refl _) _⟩

theorem edgeP_any (s n i : Int) (b : Bool) (w : World) (h : vset s n = true) (h3 : 0 ≤ i) (h4 : i < n) :
    Calls Tryz.prog 66 #[st s b, .int .i64 n, .int .i64 i] w fun e w' => e = .returned (.tuple #[.int .i64 (Plain.ed s b n i), .int .i64 0]) ∧ Below w.heap.size w w' := by
  have hh := h
  simp only [vset, Bool.and_eq_true, decide_eq_true_eq] at hh
  obtain ⟨⟨⟨a1, a2⟩, a3⟩, a4⟩ := hh
  go_enter Tryz.func66, Tryz.ntmps66
  go_wp2_with fail
  refine (validSetting_any _ _ _ _).mono ?_
  rintro e w1 ⟨rfl, hb⟩
  rw [h]
  have n1 := st_new w s b
  have k0 := keep_cell hb n1.1
  have k1 := keep_cell hb n1.2
  have kb := keep_below ((Below.refl _ _).alloc (Nat.le_refl _) _) hb
  clear n1 hb
  go_wp2_with (first | (go_at_call 98; refine (edge_any _ _ _ _ _ (by assumption) (by assumption) (by assumption) (by assumption) (by assumption) (by assumption)).mono ?_; rintro e w2 ⟨rfl, hb⟩))
  go_ret2
  exact ⟨rfl, keep_below kb hb⟩

set_option maxHeartbeats 1000000 in
theorem inverse_any (s n : Int) (b : Bool) (w : World) (h : vset s n = true) :
    Calls Tryz.prog 97 #[st s b, .int .i64 n] w fun e w' => e = .returned (.tuple #[st (Plain.inv s b n) b, .int .i64 0]) ∧ Below w.heap.size w w' := by
  have hh := h
  simp only [vset, Bool.and_eq_true, decide_eq_true_eq] at hh
  obtain ⟨⟨⟨a1, a2⟩, a3⟩, a4⟩ := hh
  have E2 := Lib.hid (Plain.inv_forth a3 a4)
  have p1 : 0 ≤ n - s := by omega
  have p2 : n - s ≤ 24 := by omega
  go_enter Tryz.func97, Tryz.ntmps97
  go_wp2_with fail
  refine (validSetting_any _ _ _ _).mono ?_
  rintro e w1 ⟨rfl, hb⟩
  rw [h]
  have s1 : ∀ (v : World) (o : Obj), (v.alloc o).heap.size = v.heap.size + 1 := fun v o => by simp
  have n1 := st_new w s b
  have n2 := st_new (w.alloc (stObj s b)) 0 false
  simp only [s1] at n2
  have f1 : ((w.alloc (stObj s b)).alloc (stObj 0 false)).frozen? ⟨w.heap.size, 0, none⟩ = false := by go_simp
  have f2 : ((w.alloc (stObj s b)).alloc (stObj 0 false)).frozen? ⟨w.heap.size, 1, none⟩ = false := by go_simp
  have f4 : ((w.alloc (stObj s b)).alloc (stObj 0 false)).frozen? ⟨w.heap.size + 1, 0, none⟩ = false := by go_simp
  have f5 : ((w.alloc (stObj s b)).alloc (stObj 0 false)).frozen? ⟨w.heap.size + 1, 1, none⟩ = false := by go_simp
  have b0 : Below w.heap.size w ((w.alloc (stObj s b)).alloc (stObj 0 false)) := ((Below.refl _ _).alloc (by simp) _).alloc (by simp) _
  have o1 := pt_old _ (stObj 0 false) n1.1
  have o2 := pt_old _ (stObj 0 false) n1.2
  replace f1 := keep_frozen hb o1 f1
  replace f2 := keep_frozen hb o2 f2
  replace f4 := keep_frozen hb n2.1 f4
  replace f5 := keep_frozen hb n2.2 f5
  have c0 := keep_cell hb o1
  have c1 := keep_cell hb o2
  have c2 := keep_cell hb n2.1
  have c3 := keep_cell hb n2.2
  replace b0 := keep_below b0 hb
  clear hb o1 o2 n1 n2 s1
  cases b
  · have e3 : -s % n = Plain.inv s false n := by
      have := E2.out
      rw [← this, Int.sub_emod_left]
    have E3 := Lib.hid e3
    clear e3
    go_wp2
    refine bodyPost_ret (v := .tuple #[st (Plain.inv s false n) false, .int .i64 0]) ?_ rfl ⟨rfl, ?_⟩
    · have d4 := set_cell (q := ⟨w.heap.size, 0, none⟩) (v := .int .i64 (-s % n)) (by simp) c2
      have d5 := set_cell (q := ⟨w.heap.size, 0, none⟩) (v := .int .i64 (-s % n)) (by simp) c3
      have q4 := set_cell (q := ⟨w.heap.size + 1, 1, none⟩) (v := .bool false) (by simp) (new_cell (v := .int .i64 (-s % n)) d4)
      have q5 := new_cell (v := .bool false) (set_cell (q := ⟨w.heap.size + 1, 0, none⟩) (v := .int .i64 (-s % n)) (by simp) d5)
      simp [results, go_sem, q4, q5]
      exact E3.out
    · exact Below.setCell (Below.setCell (Below.setCell b0 (by simp) _) (by simp) _) (by simp) _
  · go_wp2
    refine bodyPost_ret (v := .tuple #[st (Plain.inv s true n) true, .int .i64 0]) ?_ rfl ⟨rfl, ?_⟩
    · have q4 := set_cell (q := ⟨w.heap.size + 1, 1, none⟩) (v := .bool true) (by simp) (new_cell (v := .int .i64 s) c2)
      have q5 := new_cell (v := .bool true) (set_cell (q := ⟨w.heap.size + 1, 0, none⟩) (v := .int .i64 s) (by simp) c3)
      simp [results, go_sem, q4, q5]
      rfl
    · exact Below.setCell (Below.setCell b0 (by simp) _) (by simp) _

end Go.Proofs.YtkmcboincjohlaaGreat

/- A region that draws its order, whose operations read old memory and whose callees make new memory alone: one walk in the order of the text. -/
namespace Go.RowKit
open Go

/-- A world that has grown out of W: what was there is as it was. -/
def Grow (W : World) : Type := { x : World // Below W.heap.size W x }

def Grow.w {W : World} (x : Grow W) : World := x.1
theorem Grow.b {W : World} (x : Grow W) : Below W.heap.size W x.w := x.2

instance (W : World) : Nonempty (Grow W) := ⟨⟨W, Below.refl _ _⟩⟩

variable {P : Program}

theorem wp_region_grow {id : Nat} {Q : Exit → Act → World → Prop} {a : Act} {W : World} {l : List Oper} (hm : P.follows .mixedOrders = true) (hB : Region.lexB .any l.toArray = true)
    (h : wpQuiet P l.toArray (fun w' => ∃ x : Grow W, w' = x.w) (fun a' => ∀ w', (∃ x : Grow W, w' = x.w) → Q .normal a' w') l a) : (Code.region id l.toArray true).wp P Q a W :=
  wp_region_quiet (C := fun w' => ∃ x : Grow W, w' = x.w) hm hB ⟨⟨{ W with drawn := W.drawn + 1 }, ⟨rfl, rfl, rfl, Nat.le_refl _, fun _ _ => rfl⟩⟩, rfl⟩ (by simpa using h)

theorem calls_grow {f : FuncId} {args : Array Value} {W : World} {x : Grow W} {v : Value} (h : Calls P f args x.w fun e w' => e = .returned v ∧ Below x.w.heap.size x.w w') :
    Calls P f args x.w fun e w'' => e = .returned v ∧ ∃ y : Grow W, w'' = y.w :=
  h.mono fun _ w'' ⟨he, hb⟩ => ⟨he, ⟨w'', x.b.trans (hb.mono x.b.size)⟩, rfl⟩

theorem grow_cell {W : World} {b o : Nat} {v : Value} (h : W.cell? ⟨b, o, none⟩ = some v) : ∀ x : Grow W, x.w.cell? ⟨b, o, none⟩ = some v := fun x => (x.b.cell (World.block_lt_of_cell? W _ h)).trans h

end Go.RowKit

/- Walks: numbers within bounds; lists of numbers; the closures over them. -/
namespace Go.Proofs.YtkmcboincjohlaaGreat
open Go Go.RowKit Go.Proofs

def wi (n lo hi : Int) : Bool := decide (lo ≤ n) && decide (n ≤ hi)

set_option maxHeartbeats 400000 in
theorem within_any (n lo hi : Int) (w : World) :
    Calls Tryz.prog 23 #[.int .i64 n, .int .i64 lo, .int .i64 hi] w fun e w' => e = .returned (.bool (wi n lo hi)) ∧ w' = w := by
  obtain ⟨v, hv⟩ : ∃ v, wi n lo hi = v := ⟨_, rfl⟩
  rw [hv]
  go_enter Tryz.func23, Tryz.ntmps23
  go_wp2
  all_goals go_ret
  all_goals refine ⟨?_, rfl⟩
  all_goals rw [← hv]; unfold wi
  all_goals simp [*]
  all_goals (intros; omega)

def iz (L : List Int) (k : Nat) : Int := L.getD k 0

/-- The value is a slice, nil or not, that holds the numbers of L. -/
def SlI (w : World) (v : Value) (L : List Int) : Prop := ∃ a cap, v = .slice a L.length cap ∧ L.length ≤ 9223372036854775807 ∧
  ∀ k, k < L.length → ∃ b off, a = some ⟨b, off, none⟩ ∧ w.cell? ⟨b, off + k, none⟩ = some (.int .i64 (iz L k))

theorem SlI.keep {w w' : World} {v : Value} {L : List Int} (h : SlI w v L) (hb : Below w.heap.size w w') : SlI w' v L := by
  obtain ⟨a, cap, rfl, hl, hc⟩ := h
  refine ⟨a, cap, rfl, hl, fun k hk => ?_⟩
  obtain ⟨b, off, rfl, h⟩ := hc k hk
  exact ⟨b, off, rfl, keep_cell hb h⟩

end Go.Proofs.YtkmcboincjohlaaGreat

/- Walks: lists of numbers by a test; valid films. -/
namespace Go.Proofs.YtkmcboincjohlaaGreat
open Go Go.RowKit Go.Proofs

abbrev film (id : Int) (v : Value) : Value := .agg #[.int .i64 id, v]
end Go.Proofs.YtkmcboincjohlaaGreat

/- Walks: Greys$1 and lists by it; rising. -/
namespace Go.Proofs.YtkmcboincjohlaaGreat
open Go Go.RowKit Go.Proofs

end Go.Proofs.YtkmcboincjohlaaGreat

/- Walks: tableOf. -/
namespace Go.Proofs.YtkmcboincjohlaaGreat
open Go Go.RowKit Go.Proofs

theorem setCell_heap {w : World} {b k : Nat} {c : Array Value} {t : TypeId} {fr : Nat × Nat} (v : Value) (h : w.heap[b]? = some (.cells c t fr)) :
    (w.setCell ⟨b, k, none⟩ v).heap[b]? = some (.cells (c.setIfInBounds k v) t fr) := by
  obtain ⟨hlt, hk⟩ := Array.getElem?_eq_some_iff.1 h
  show (w.heap.modify b _)[b]? = _
  rw [Array.getElem?_eq_getElem (by rw [Array.size_modify]; exact hlt), Array.getElem_modify_self, hk]
  rfl

theorem cell_of {w : World} {b k : Nat} {c : Array Value} {t : TypeId} {fr : Nat × Nat} {v : Value} (h : w.heap[b]? = some (.cells c t fr)) (hv : c[k]? = some v) : w.cell? ⟨b, k, none⟩ = some v := by
  unfold World.cell?
  simp [h, hv]

theorem frozen_of {w : World} {b k : Nat} {c : Array Value} {t : TypeId} (h : w.heap[b]? = some (.cells c t (0, 0))) : w.frozen? ⟨b, k, none⟩ = false := by
  unfold World.frozen?
  simp [h]

theorem alloc_heap_old (w : World) (o : Obj) {k : Nat} (h : k < w.heap.size) : (w.alloc o).heap[k]? = w.heap[k]? := by
  show (w.heap.push o)[k]? = _
  rw [Array.getElem?_push, if_neg (by omega)]

theorem alloc_heap_new (w : World) (o : Obj) : (w.alloc o).heap[w.heap.size]? = some o := by
  show (w.heap.push o)[w.heap.size]? = some o
  simp

theorem range_of {w : World} {b : Nat} {cs : List Value} {t : TypeId} (h : w.heap[b]? = some (.cells cs.toArray t (0, 0))) : w.rangeAt b 0 cs := by
  intro j v hv
  rw [Nat.zero_add]
  exact cell_of h (by simpa using hv)

theorem results_cell {P : Program} {fn : Func} {a : Tmp} {t : TypeId} {w : World} {v : Value} {p : Addr} (h : fn.results = #[.cell a t]) (tmps : Array Value) (hp : tmps.getD a undef = .pointer (some p))
    (hl : (loadVar t p).run P w = .ok v w) : (results fn tmps).run P w = .ok v w := by
  have hp' : tmps[a]?.getD undef = .pointer (some p) := by simpa using hp
  simp only [results, h]
  simp [hp', asAddr, hl]

end Go.Proofs.YtkmcboincjohlaaGreat

/- Walks: contains, one. -/
namespace Go.Proofs.YtkmcboincjohlaaGreat
open Go Go.RowKit Go.Proofs

abbrev spn (lo hi : Int) : Value := .agg #[.int .i64 lo, .int .i64 hi]
abbrev spnObj (lo hi : Int) : Obj := .cells #[.int .i64 lo, .int .i64 hi] 79

set_option maxHeartbeats 400000 in
theorem contains51_any (lo hi n : Int) (w : World) :
    Calls Tryz.prog 93 #[spn lo hi, .int .i64 n] w fun e w' => e = .returned (.bool (wi n lo hi)) ∧ Below w.heap.size w w' := by
  have C := fun w => within_any n lo hi w
  generalize wi n lo hi = c at C ⊢
  go_enter Tryz.func93, Tryz.ntmps93
  go_wp2_with fail
  refine (C _).mono ?_
  rintro e w1 ⟨rfl, rfl⟩
  go_wp2
  go_ret
  exact ⟨rfl, (Below.refl _ _).alloc (Nat.le_refl _) _⟩

set_option maxHeartbeats 400000 in
theorem one_any (n : Int) (w : World) :
    Calls Tryz.prog 21 #[.int .i64 n] w fun e w' => e = .returned (spn n n) ∧ Below w.heap.size w w' := by
  go_enter Tryz.func21, Tryz.ntmps21
  go_wp2
  refine bodyPost_ret (v := spn n n) ?_ rfl ⟨rfl, ?_⟩
  · simp [results, go_sem]
  · exact (Below.refl _ _).alloc (Nat.le_refl _) _

end Go.Proofs.YtkmcboincjohlaaGreat

/- Walks: Colours. -/
namespace Go.Proofs.YtkmcboincjohlaaGreat
open Go Go.RowKit Go.Proofs

theorem info3 : (Tryz.prog.info? 3).map (fun i => (i.zero, i.size, i.bytes)) = some (some (.int .i64 0), 1, 8) := by kernel_rfl

theorem grown_below {w w' : World} (h : Below w.heap.size w w') : w.grownBy w' none := ⟨h.os, h.tape, h.output, h.size, fun k hk _ => h.block k hk⟩

theorem own_keep {w w' : World} {B e size n : Nat} {v : Value} {xs : List Value} (h : w.ownsRow B e size v n xs) (hb : Below w.heap.size w w') : w'.ownsRow B e size v n xs := by
  refine h.kept (grown_below hb) ?_
  rcases h.2 with ⟨rfl, _⟩ | ⟨g, cap, cur, rfl, _⟩
  · exact .inl rfl
  · exact .inr (by simp [Value.ownBlock])

theorem own_base {w : World} {B B' e size n : Nat} {v : Value} {xs : List Value} (h : w.ownsRow B e size v n xs) (hb : B' ≤ B) : w.ownsRow B' e size v n xs := by
  refine ⟨h.1, ?_⟩
  rcases h.2 with h | ⟨g, cap, cur, h1, h2, h3⟩
  · exact .inl h
  · exact .inr ⟨g, cap, cur, h1, Nat.le_trans hb h2, h3⟩

end Go.Proofs.YtkmcboincjohlaaGreat

/- A whole value into the block that was made last, as an operation of a plain region. -/
namespace Go
variable {P : Program}

theorem wpList_store_new {ops : Array Oper} {rest : List Oper} {op : Oper} {a : Act} {w : World} {Q : Exit → Act → World → Prop} {c : Array Value} (hgd : op.guard = none) (ty : TypeId) (x y : Operand) (ho : op.op = .store ty x y)
    (c' : Array Value) (hx : a.eval x = .pointer (some ⟨w.heap.size, 0, none⟩)) (hy : a.eval y = .agg c') (hi : (P.info? ty).map (·.size) = some c'.size) (hs : c.size = c'.size) (h1 : c'.all (·.oneCell') = true)
    (h : wpList P ops Q rest (a.put op.dst undef) (w.alloc (.cells c' ty))) : wpList P ops Q (op :: rest) a (w.alloc (.cells c ty)) :=
  wpList_plain hgd fun _ hK => by
    unfold Oper.wp execOp
    simp only [ho, hx, hy, Instr.storeAt, Instr.sureAddr, Sem.run_bind, Sem.run_pure, Result.andThen_ok, run_storeVar_new w ty c c' hi hs h1]
    exact hK _ _ h

end Go

/- Walks: Greys. -/
namespace Go.Proofs.YtkmcboincjohlaaGreat
open Go Go.RowKit Go.Proofs

/-- A span lies in a block of its own. -/
def Sp (w : World) (b : Nat) (lo hi : Int) : Prop := w.heap[b]? = some (.cells #[.int .i64 lo, .int .i64 hi] 79 (0, 0))

theorem Sp.c0 {w : World} {b : Nat} {lo hi : Int} (h : Sp w b lo hi) : w.cell? ⟨b, 0, none⟩ = some (.int .i64 lo) := cell_of h rfl
theorem Sp.c1 {w : World} {b : Nat} {lo hi : Int} (h : Sp w b lo hi) : w.cell? ⟨b, 1, none⟩ = some (.int .i64 hi) := cell_of h rfl
theorem Sp.f {w : World} {b : Nat} {lo hi : Int} (h : Sp w b lo hi) (k : Nat) : w.frozen? ⟨b, k, none⟩ = false := frozen_of h
theorem Sp.lt {w : World} {b : Nat} {lo hi : Int} (h : Sp w b lo hi) : b < w.heap.size := (Array.getElem?_eq_some_iff.1 h).1
theorem Sp.keep {w w' : World} {b : Nat} {lo hi : Int} (h : Sp w b lo hi) (hb : Below w.heap.size w w') : Sp w' b lo hi := (hb.block b h.lt).trans h
theorem Sp.set {w : World} {b : Nat} {lo hi : Int} (h : Sp w b lo hi) (x y : Int) : Sp ((w.setCell ⟨b, 0, none⟩ (.int .i64 x)).setCell ⟨b, 1, none⟩ (.int .i64 y)) b x y :=
  setCell_heap _ (setCell_heap _ h)
theorem Sp.other {w : World} {b c k : Nat} {lo hi : Int} (h : Sp w b lo hi) (v : Value) (hn : b ≠ c) : Sp (w.setCell ⟨c, k, none⟩ v) b lo hi := (Below.heap_setCell _ _ _ _ hn).trans h
theorem Sp.new (w : World) (lo hi : Int) : Sp (w.alloc (.cells #[.int .i64 lo, .int .i64 hi] 79)) w.heap.size lo hi := alloc_heap_new _ _
theorem Sp.alloc {w : World} {b : Nat} {lo hi : Int} (h : Sp w b lo hi) (o : Obj) : Sp (w.alloc o) b lo hi := (alloc_heap_old w o h.lt).trans h

theorem results_cell_tmp {P : Program} {fn : Func} {a u : Tmp} {t : TypeId} {w : World} {v : Value} {p : Addr} (h : fn.results = #[.cell a t, .tmp u]) (tmps : Array Value) (hp : tmps.getD a undef = .pointer (some p))
    (hl : (loadVar t p).run P w = .ok v w) : (results fn tmps).run P w = .ok (.tuple #[v, tmps.getD u undef]) w := by
  have hp' : tmps[a]?.getD undef = .pointer (some p) := by simpa using hp
  simp only [results, h]
  simp [hp', asAddr, hl]

theorem Sp.load {w : World} {b : Nat} {lo hi : Int} (h : Sp w b lo hi) : (loadVar 79 ⟨b, 0, none⟩).run Tryz.prog w = .ok (spn lo hi) w :=
  run_loadVar_mid (P := Tryz.prog) w b 0 79 [.int .i64 lo, .int .i64 hi] _ (range_of h) Tryz.underlying79 rfl (by kernel_rfl)

def gr (L : List Int) (m : Nat) : Int := if m < L.length then iz L m else -1
def mz (cs : List Int) (k : Nat) : Nat := (iz cs k - 1).toNat

/-- The least span of the greys of the first k colours; all are there. -/
def Got (L cs : List Int) (k : Nat) (lo hi : Int) : Prop := lo ≤ hi ∧ (∃ i, i < cs.length ∧ gr L (mz cs i) = lo) ∧ (∃ i, i < cs.length ∧ gr L (mz cs i) = hi) ∧ ∀ i, i < k → gr L (mz cs i) ≠ -1 ∧ lo ≤ gr L (mz cs i) ∧ gr L (mz cs i) ≤ hi

theorem Got.start {L cs : List Int} (h : 0 < cs.length) : Got L cs 0 (gr L (mz cs 0)) (gr L (mz cs 0)) := ⟨Int.le_refl _, ⟨0, h, rfl⟩, ⟨0, h, rfl⟩, fun _ hi => absurd hi (Nat.not_lt_zero _)⟩

theorem Got.step {L cs : List Int} {k : Nat} {lo hi : Int} (h : Got L cs k lo hi) (hk : k < cs.length) (hn : gr L (mz cs k) ≠ -1) : Got L cs (k + 1) (min lo (gr L (mz cs k))) (max hi (gr L (mz cs k))) := by
  obtain ⟨h1, h2, h3, h4⟩ := h
  refine ⟨by omega, ?_, ?_, fun i hi => ?_⟩
  · rcases Int.le_total lo (gr L (mz cs k)) with h | h
    · rw [Int.min_eq_left h]; exact h2
    · rw [Int.min_eq_right h]; exact ⟨k, hk, rfl⟩
  · rcases Int.le_total hi (gr L (mz cs k)) with h | h
    · rw [Int.max_eq_right h]; exact ⟨k, hk, rfl⟩
    · rw [Int.max_eq_left h]; exact h3
  · rcases Nat.lt_or_ge i k with h | h
    · have := h4 i h
      exact ⟨this.1, by omega, by omega⟩
    · obtain rfl : i = k := by omega
      exact ⟨hn, by omega, by omega⟩

end Go.Proofs.YtkmcboincjohlaaGreat
