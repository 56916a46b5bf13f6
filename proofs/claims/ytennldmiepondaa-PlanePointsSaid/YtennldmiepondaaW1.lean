/- Walks: the least functions of the plane. -/
import Derived.Test.YtennldmiepondaaProg
import Derived.WalkKit
import Derived.WalkSpells
import Derived.Lib.Small
namespace Go.Proofs.Ytennldmiepondaa
open Go Go.RowKit Go.Proofs

abbrev pt (x y : Int) : Value := .agg #[.int .i64 x, .int .i64 y]

set_option maxHeartbeats 400000 in
theorem compare_any (x y : Int) (w : World) :
    Calls Try.prog 73 #[.int .i64 x, .int .i64 y] w fun e w' => e = .returned (.int .i64 (Lib.compareInt x y)) ∧ w' = w := by
  go_enter Try.func73, Try.ntmps73
  go_wp2
  all_goals (go_ret; refine ⟨?_, rfl⟩; unfold Lib.compareInt; (repeat' split) <;> first | rfl | (exfalso; omega))

/-- A coordinate, or the difference of two. -/
def Small (x : Int) : Prop := -8192 ≤ x ∧ x ≤ 8192

theorem mul_le {a b A B : Int} (ha : -A ≤ a ∧ a ≤ A) (hb : -B ≤ b ∧ b ≤ B) : -(A * B) ≤ a * b ∧ a * b ≤ A * B := by
  have h1 : a.natAbs ≤ A.natAbs := by omega
  have h2 : b.natAbs ≤ B.natAbs := by omega
  have h3 := Nat.mul_le_mul h1 h2
  rw [← Int.natAbs_mul, ← Int.natAbs_mul] at h3
  have h4 : 0 ≤ A * B := Int.mul_nonneg (by omega) (by omega)
  omega

theorem w64 (n : Int) (h : -9223372036854775808 ≤ n ∧ n ≤ 9223372036854775807) : wrap64 n = n := by unfold wrap64; omega

theorem wi64 (n : Int) (h : -9223372036854775808 ≤ n ∧ n ≤ 9223372036854775807) : IntKind.i64.wrap n = n := by
  rw [IntKind.wrap_i64]; omega

def cross (ax ay bx b_y cx cy : Int) : Int := (bx - ax) * (cy - ay) - (b_y - ay) * (cx - ax)

theorem cross_bound {ax ay bx b_y cx cy : Int} (h1 : Small ax) (h2 : Small ay) (h3 : Small bx) (h4 : Small b_y) (h5 : Small cx) (h6 : Small cy) :
    (-268435456 ≤ (bx - ax) * (cy - ay) ∧ (bx - ax) * (cy - ay) ≤ 268435456) ∧ (-268435456 ≤ (b_y - ay) * (cx - ax) ∧ (b_y - ay) * (cx - ax) ≤ 268435456) := by
  unfold Small at *
  exact ⟨mul_le (A := 16384) (B := 16384) (by omega) (by omega), mul_le (A := 16384) (B := 16384) (by omega) (by omega)⟩

set_option maxHeartbeats 400000 in
theorem cross_any (ax ay bx b_y cx cy : Int) (w : World) (h1 : Small ax) (h2 : Small ay) (h3 : Small bx) (h4 : Small b_y) (h5 : Small cx) (h6 : Small cy) :
    Calls Try.prog 74 #[pt ax ay, pt bx b_y, pt cx cy] w fun e w' => e = .returned (.int .i64 (cross ax ay bx b_y cx cy)) ∧ Below w.heap.size w w' := by
  have hb := cross_bound h1 h2 h3 h4 h5 h6
  have e1 : wrap64 (wrap64 (wrap64 (bx - ax) * wrap64 (cy - ay)) - wrap64 (wrap64 (b_y - ay) * wrap64 (cx - ax))) = cross ax ay bx b_y cx cy := by
    unfold Small at *
    rw [w64 (bx - ax) (by omega), w64 (cy - ay) (by omega), w64 (b_y - ay) (by omega), w64 (cx - ax) (by omega),
      w64 ((bx - ax) * (cy - ay)) (by omega), w64 ((b_y - ay) * (cx - ax)) (by omega), w64 _ (by omega)]
    rfl
  clear hb h1 h2 h3 h4 h5 h6
  go_enter Try.func74, Try.ntmps74
  go_wp2
  go_ret
  refine ⟨?_, ?_⟩
  · show Ending.returned (Value.int IntKind.i64 (wrap64 _)) = _
    rw [← e1]
  · exact (((Below.refl _ _).alloc (by simp) _).alloc (by simp) _).alloc (by simp; omega) _

def valid (x y : Int) : Bool := decide (0 ≤ x) && decide (x ≤ 4096) && decide (0 ≤ y) && decide (y ≤ 4096)

set_option maxHeartbeats 400000 in
theorem validPoint_any (x y : Int) (w : World) :
    Calls Try.prog 20 #[pt x y] w fun e w' => e = .returned (.bool (valid x y)) ∧ Below w.heap.size w w' := by
  obtain ⟨v, hv⟩ : ∃ v, valid x y = v := ⟨_, rfl⟩
  rw [hv]
  go_enter Try.func20, Try.ntmps20
  go_wp2
  all_goals go_ret
  all_goals refine ⟨?_, (Below.refl _ _).alloc (Nat.le_refl _) _⟩
  all_goals rw [← hv]; unfold valid
  all_goals simp [*]
  all_goals (intros; omega)

def parted (ax ay bx b_y cx cy dx dy : Int) : Bool := decide (Lib.compareInt (cross ax ay bx b_y cx cy) 0 * Lib.compareInt (cross ax ay bx b_y dx dy) 0 < 0)

theorem compareInt_bound (x y : Int) : -1 ≤ Lib.compareInt x y ∧ Lib.compareInt x y ≤ 1 := by
  unfold Lib.compareInt
  split
  · decide
  · split <;> decide

end Go.Proofs.Ytennldmiepondaa
