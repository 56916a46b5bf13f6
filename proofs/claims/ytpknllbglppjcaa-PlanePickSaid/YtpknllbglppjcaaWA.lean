/- The abstract machine, part WA. -/
import Derived.Test.YtpknllbglppjcaaProg
import Derived.WalkKit
import Derived.WalkSpells
import Derived.Lib.Small
import Derived.Deep.RegionHeld3
/- Walks: the least functions of the plane. -/
namespace Go.Proofs.Ytpknllbglppjcaa
open Go Go.RowKit Go.Proofs

abbrev pt (x y : Int) : Value := .agg #[.int .i64 x, .int .i64 y]

set_option maxHeartbeats 400000 in
theorem compare_any (x y : Int) (w : World) :
    Calls Try.prog 73 #[.int .i64 x, .int .i64 y] w fun e w' => e = .returned (.int .i64 (Lib.compareInt x y)) ∧ w' = w := by
  go_enter Try.func73, Try.ntmps73
  go_wp2
  all_goals (go_ret; refine ⟨?_, rfl⟩; unfold Lib.compareInt; (repeat' split) <;> first | rfl | (exfalso; omega))

/-- A coordinate, or the difference of two. -/
def Small (x : Int) : Prop := -8192 ≤ x ∧ x ≤ 8192

theorem mul_le {a b A B : Int} (ha : -A ≤ a ∧ a ≤ A) (hb : -B ≤ b ∧ b ≤ B) : -(A * B) ≤ a * b ∧ a * b ≤ A * B := by
  have h1 : a.natAbs ≤ A.natAbs := by omega
  have h2 : b.natAbs ≤ B.natAbs := by omega
  have h3 := Nat.mul_le_mul h1 h2
  rw [← Int.natAbs_mul, ← Int.natAbs_mul] at h3
  have h4 : 0 ≤ A * B := Int.mul_nonneg (by omega) (by omega)
  omega

theorem w64 (n : Int) (h : -9223372036854775808 ≤ n ∧ n ≤ 9223372036854775807) : wrap64 n = n := by unfold wrap64; omega

theorem wi64 (n : Int) (h : -9223372036854775808 ≤ n ∧ n ≤ 9223372036854775807) : IntKind.i64.wrap n = n := by
  rw [IntKind.wrap_i64]; omega

def cross (ax ay bx b_y cx cy : Int) : Int := (bx - ax) * (cy - ay) - (b_y - ay) * (cx - ax)

theorem cross_bound {ax ay bx b_y cx cy : Int} (h1 : Small ax) (h2 : Small ay) (h3 : Small bx) (h4 : Small b_y) (h5 : Small cx) (h6 : Small cy) :
    (-268435456 ≤ (bx - ax) * (cy - ay) ∧ (bx - ax) * (cy - ay) ≤ 268435456) ∧ (-268435456 ≤ (b_y - ay) * (cx - ax) ∧ (b_y - ay) * (cx - ax) ≤ 268435456) := by
  unfold Small at *
  exact ⟨mul_le (A := 16384) (B := 16384) (by omega) (by omega), mul_le (A := 16384) (B := 16384) (by omega) (by omega)⟩

set_option maxHeartbeats 400000 in
theorem cross_any (ax ay bx b_y cx cy : Int) (w : World) (h1 : Small ax) (h2 : Small ay) (h3 : Small bx) (h4 : Small b_y) (h5 : Small cx) (h6 : Small cy) :
    Calls Try.prog 74 #[pt ax ay, pt bx b_y, pt cx cy] w fun e w' => e = .returned (.int .i64 (cross ax ay bx b_y cx cy)) ∧ Below w.heap.size w w' := by
  have hb := cross_bound h1 h2 h3 h4 h5 h6
  have e1 : wrap64 (wrap64 (wrap64 (bx - ax) * wrap64 (cy - ay)) - wrap64 (wrap64 (b_y - ay) * wrap64 (cx - ax))) = cross ax ay bx b_y cx cy := by
    unfold Small at *
    rw [w64 (bx - ax) (by omega), w64 (cy - ay) (by omega), w64 (b_y - ay) (by omega), w64 (cx - ax) (by omega),
      w64 ((bx - ax) * (cy - ay)) (by omega), w64 ((b_y - ay) * (cx - ax)) (by omega), w64 _ (by omega)]
    rfl
  clear hb h1 h2 h3 h4 h5 h6
  go_enter Try.func74, Try.ntmps74
  go_wp2
  go_ret
  refine ⟨?_, ?_⟩
  · show Ending.returned (Value.int IntKind.i64 (wrap64 _)) = _
    rw [← e1]
  · exact (((Below.refl _ _).alloc (by simp) _).alloc (by simp) _).alloc (by simp; omega) _

def valid (x y : Int) : Bool := decide (0 ≤ x) && decide (x ≤ 4096) && decide (0 ≤ y) && decide (y ≤ 4096)

set_option maxHeartbeats 400000 in
theorem validPoint_any (x y : Int) (w : World) :
    Calls Try.prog 20 #[pt x y] w fun e w' => e = .returned (.bool (valid x y)) ∧ Below w.heap.size w w' := by
  obtain ⟨v, hv⟩ : ∃ v, valid x y = v := ⟨_, rfl⟩
  rw [hv]
  go_enter Try.func20, Try.ntmps20
  go_wp2
  all_goals go_ret
  all_goals refine ⟨?_, (Below.refl _ _).alloc (Nat.le_refl _) _⟩
  all_goals rw [← hv]; unfold valid
  all_goals simp [*]
  all_goals (intros; omega)

def parted (ax ay bx b_y cx cy dx dy : Int) : Bool := decide (Lib.compareInt (cross ax ay bx b_y cx cy) 0 * Lib.compareInt (cross ax ay bx b_y dx dy) 0 < 0)

theorem compareInt_bound (x y : Int) : -1 ≤ Lib.compareInt x y ∧ Lib.compareInt x y ≤ 1 := by
  unfold Lib.compareInt
  split
  · decide
  · split <;> decide

end Go.Proofs.Ytpknllbglppjcaa

/- Walks: parted. -/
namespace Go.Proofs.Ytpknllbglppjcaa
open Go Go.RowKit Go.Proofs

theorem lt_of_cell {w : World} {b o : Nat} {v : Value} (h : w.cell? ⟨b, o, none⟩ = some v) : b < w.heap.size := World.block_lt_of_cell? w _ h

theorem keep_cell {w w' : World} {b o : Nat} {v : Value} (hb : Below w.heap.size w w') (h : w.cell? ⟨b, o, none⟩ = some v) : w'.cell? ⟨b, o, none⟩ = some v := (hb.cell (lt_of_cell h)).trans h

theorem keep_below {a w w' : World} (h : Below a.heap.size a w) (hb : Below w.heap.size w w') : Below a.heap.size a w' := h.trans (hb.mono h.size)

abbrev ptObj (x y : Int) : Obj := .cells #[.int .i64 x, .int .i64 y] 23

theorem pt_new (w : World) (x y : Int) : (w.alloc (ptObj x y)).cell? ⟨w.heap.size, 0, none⟩ = some (.int .i64 x) ∧ (w.alloc (ptObj x y)).cell? ⟨w.heap.size, 1, none⟩ = some (.int .i64 y) := by
  constructor <;> go_simp

theorem pt_old (w : World) (o : Obj) {b k : Nat} {v : Value} (h : w.cell? ⟨b, k, none⟩ = some v) : (w.alloc o).cell? ⟨b, k, none⟩ = some v :=
  keep_cell ((Below.refl _ _).alloc (Nat.le_refl _) _) h

theorem pts4 (w : World) (ax ay bx b_y cx cy dx dy : Int) : (fun w' => Below w.heap.size w w' ∧ w'.cell? ⟨w.heap.size, 0, none⟩ = some (.int .i64 ax) ∧ w'.cell? ⟨w.heap.size, 1, none⟩ = some (.int .i64 ay) ∧ w'.cell? ⟨w.heap.size + 1, 0, none⟩ = some (.int .i64 bx) ∧ w'.cell? ⟨w.heap.size + 1, 1, none⟩ = some (.int .i64 b_y) ∧ w'.cell? ⟨w.heap.size + 1 + 1, 0, none⟩ = some (.int .i64 cx) ∧ w'.cell? ⟨w.heap.size + 1 + 1, 1, none⟩ = some (.int .i64 cy) ∧ w'.cell? ⟨w.heap.size + 1 + 1 + 1, 0, none⟩ = some (.int .i64 dx) ∧ w'.cell? ⟨w.heap.size + 1 + 1 + 1, 1, none⟩ = some (.int .i64 dy)) ((((w.alloc (ptObj ax ay)).alloc (ptObj bx b_y)).alloc (ptObj cx cy)).alloc (ptObj dx dy)).drew := by
  have s1 : ∀ (v : World) (o : Obj), (v.alloc o).heap.size = v.heap.size + 1 := fun v o => by simp
  have n1 := pt_new w ax ay
  have n2 := pt_new (w.alloc (ptObj ax ay)) bx b_y
  have n3 := pt_new ((w.alloc (ptObj ax ay)).alloc (ptObj bx b_y)) cx cy
  have n4 := pt_new (((w.alloc (ptObj ax ay)).alloc (ptObj bx b_y)).alloc (ptObj cx cy)) dx dy
  simp only [s1] at n2 n3 n4
  have hb : Below w.heap.size w ((((w.alloc (ptObj ax ay)).alloc (ptObj bx b_y)).alloc (ptObj cx cy)).alloc (ptObj dx dy)) :=
    ((((Below.refl _ _).alloc (by simp) _).alloc (by simp) _).alloc (by simp; omega) _).alloc (by simp; omega) _
  exact ⟨hb.drew, pt_old _ _ (pt_old _ _ (pt_old _ _ n1.1)), pt_old _ _ (pt_old _ _ (pt_old _ _ n1.2)), pt_old _ _ (pt_old _ _ n2.1), pt_old _ _ (pt_old _ _ n2.2), pt_old _ _ n3.1, pt_old _ _ n3.2, n4.1, n4.2⟩

set_option maxHeartbeats 1000000 in
theorem parted_any (ax ay bx b_y cx cy dx dy : Int) (w : World) (h1 : Small ax) (h2 : Small ay) (h3 : Small bx) (h4 : Small b_y) (h5 : Small cx) (h6 : Small cy) (h7 : Small dx) (h8 : Small dy) :
    Calls Try.prog 129 #[pt ax ay, pt bx b_y, pt cx cy, pt dx dy] w fun e w' => e = .returned (.bool (parted ax ay bx b_y cx cy dx dy)) ∧ Below w.heap.size w w' := by
  go_enter Try.func129, Try.ntmps129
  go_wp2_with fail
  go_region_held3 (fun w' => Below w.heap.size w w' ∧ w'.cell? ⟨w.heap.size, 0, none⟩ = some (.int .i64 ax) ∧ w'.cell? ⟨w.heap.size, 1, none⟩ = some (.int .i64 ay) ∧ w'.cell? ⟨w.heap.size + 1, 0, none⟩ = some (.int .i64 bx) ∧ w'.cell? ⟨w.heap.size + 1, 1, none⟩ = some (.int .i64 b_y) ∧ w'.cell? ⟨w.heap.size + 1 + 1, 0, none⟩ = some (.int .i64 cx) ∧ w'.cell? ⟨w.heap.size + 1 + 1, 1, none⟩ = some (.int .i64 cy) ∧ w'.cell? ⟨w.heap.size + 1 + 1 + 1, 0, none⟩ = some (.int .i64 dx) ∧ w'.cell? ⟨w.heap.size + 1 + 1 + 1, 1, none⟩ = some (.int .i64 dy))
    (first
      | exact pts4 _ _ _ _ _ _ _ _ _
      | (go_split_ands
         (repeat' apply And.intro) <;> first | assumption | exact keep_below (by assumption) (by assumption) | exact keep_cell (by assumption) (by assumption)))
    (first
      | (go_at_call 74; refine (cross_any _ _ _ _ _ _ _ (by assumption) (by assumption) (by assumption) (by assumption) (by assumption) (by assumption)).mono ?_; rintro e w' ⟨rfl, hb⟩)
      | (go_at_call 73; refine (compare_any _ _ _).mono ?_; rintro e w' ⟨rfl, rfl⟩))
  go_wp2
  go_ret
  refine ⟨?_, by go_split_ands; assumption⟩
  show Ending.returned (Value.bool (decide (IntKind.i64.wrap (Lib.compareInt (cross ax ay bx b_y cx cy) 0 * Lib.compareInt (cross ax ay bx b_y dx dy) 0) < 0))) = _
  rw [wi64]
  · rfl
  · have := mul_le (compareInt_bound (cross ax ay bx b_y cx cy) 0) (compareInt_bound (cross ax ay bx b_y dx dy) 0)
    omega

end Go.Proofs.Ytpknllbglppjcaa

/- Walks: onSegment. -/
namespace Go.Proofs.Ytpknllbglppjcaa
open Go Go.RowKit Go.Proofs

theorem pts3 (w : World) (ax ay bx b_y cx cy : Int) : (fun w' => Below w.heap.size w w' ∧ w'.cell? ⟨w.heap.size, 0, none⟩ = some (.int .i64 ax) ∧ w'.cell? ⟨w.heap.size, 1, none⟩ = some (.int .i64 ay) ∧ w'.cell? ⟨w.heap.size + 1, 0, none⟩ = some (.int .i64 bx) ∧ w'.cell? ⟨w.heap.size + 1, 1, none⟩ = some (.int .i64 b_y) ∧
    w'.cell? ⟨w.heap.size + 1 + 1, 0, none⟩ = some (.int .i64 cx) ∧ w'.cell? ⟨w.heap.size + 1 + 1, 1, none⟩ = some (.int .i64 cy)) (((w.alloc (ptObj ax ay)).alloc (ptObj bx b_y)).alloc (ptObj cx cy)) := by
  have s1 : ∀ (v : World) (o : Obj), (v.alloc o).heap.size = v.heap.size + 1 := fun v o => by simp
  have n1 := pt_new w ax ay
  have n2 := pt_new (w.alloc (ptObj ax ay)) bx b_y
  have n3 := pt_new ((w.alloc (ptObj ax ay)).alloc (ptObj bx b_y)) cx cy
  simp only [s1] at n2 n3
  exact ⟨(((Below.refl _ _).alloc (by simp) _).alloc (by simp) _).alloc (by simp; omega) _, pt_old _ _ (pt_old _ _ n1.1), pt_old _ _ (pt_old _ _ n1.2), pt_old _ _ n2.1, pt_old _ _ n2.2, n3.1, n3.2⟩

def onSeg (px py ax ay bx b_y : Int) : Bool := decide (cross ax ay bx b_y px py = 0) && (decide (min ax bx ≤ px) && (decide (px ≤ max ax bx) && (decide (min ay b_y ≤ py) && decide (py ≤ max ay b_y))))

set_option maxHeartbeats 1000000 in
theorem onSegment_any (px py ax ay bx b_y : Int) (w : World) (h1 : Small ax) (h2 : Small ay) (h3 : Small bx) (h4 : Small b_y) (h5 : Small px) (h6 : Small py) :
    Calls Try.prog 130 #[pt px py, pt ax ay, pt bx b_y] w fun e w' => e = .returned (.bool (onSeg px py ax ay bx b_y)) ∧ Below w.heap.size w w' := by
  obtain ⟨v, hv⟩ : ∃ v, onSeg px py ax ay bx b_y = v := ⟨_, rfl⟩
  rw [hv]
  go_enter Try.func130, Try.ntmps130
  go_wp2_with (first
      | (go_at_call 74; refine (cross_any _ _ _ _ _ _ _ (by assumption) (by assumption) (by assumption) (by assumption) (by assumption) (by assumption)).mono ?_; rintro e w' ⟨rfl, hb⟩
         obtain ⟨b0, c0, c1, c2, c3, c4, c5⟩ := pts3 w px py ax ay bx b_y
         have k0 := keep_cell hb c0
         have k1 := keep_cell hb c1
         have k2 := keep_cell hb c2
         have k3 := keep_cell hb c3
         have k4 := keep_cell hb c4
         have k5 := keep_cell hb c5
         have kb := keep_below b0 hb
         clear c0 c1 c2 c3 c4 c5 b0 hb))
  all_goals go_ret
  all_goals refine ⟨?_, by assumption⟩
  all_goals (subst hv; refine congrArg (fun x => Ending.returned (Value.bool x)) ?_)
  all_goals (show _ = onSeg px py ax ay bx b_y)
  all_goals (unfold onSeg; rw [Bool.eq_iff_iff])
  all_goals simp only [Bool.and_eq_true, decide_eq_true_eq, Bool.false_eq_true, false_iff]
  all_goals omega

end Go.Proofs.Ytpknllbglppjcaa
