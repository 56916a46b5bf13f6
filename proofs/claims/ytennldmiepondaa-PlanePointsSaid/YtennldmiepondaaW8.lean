/- Walks: the reference's least functions. -/
import Derived.Test.YtennldmiepondaaW7
namespace Go.Proofs.Ytennldmiepondaa
open Go Go.RowKit Go.Proofs

set_option maxHeartbeats 400000 in
theorem refCross_any (ax ay bx b_y cx cy : Int) (w : World) (h1 : Small ax) (h2 : Small ay) (h3 : Small bx) (h4 : Small b_y) (h5 : Small cx) (h6 : Small cy) :
    Calls Try.prog 65 #[pt ax ay, pt bx b_y, pt cx cy] w fun e w' => e = .returned (.int .i64 (cross ax ay bx b_y cx cy)) ∧ Below w.heap.size w w' := by
  have hb := cross_bound h1 h2 h3 h4 h5 h6
  have e1 : wrap64 (wrap64 (wrap64 (bx - ax) * wrap64 (cy - ay)) - wrap64 (wrap64 (b_y - ay) * wrap64 (cx - ax))) = cross ax ay bx b_y cx cy := by
    unfold Small at *
    rw [w64 (bx - ax) (by omega), w64 (cy - ay) (by omega), w64 (b_y - ay) (by omega), w64 (cx - ax) (by omega),
      w64 ((bx - ax) * (cy - ay)) (by omega), w64 ((b_y - ay) * (cx - ax)) (by omega), w64 _ (by omega)]
    rfl
  clear hb h1 h2 h3 h4 h5 h6
  go_enter Try.func65, Try.ntmps65
  go_wp2
  go_ret
  refine ⟨?_, ?_⟩
  · show Ending.returned (Value.int IntKind.i64 (wrap64 _)) = _
    rw [← e1]
  · exact (((Below.refl _ _).alloc (by simp) _).alloc (by simp) _).alloc (by simp; omega) _

set_option maxHeartbeats 400000 in
theorem sign_any (x : Int) (w : World) :
    Calls Try.prog 75 #[.int .i64 x] w fun e w' => e = .returned (.int .i64 (Lib.compareInt x 0)) ∧ w' = w := by
  go_enter Try.func75, Try.ntmps75
  go_wp2
  all_goals (go_ret; refine ⟨?_, rfl⟩; unfold Lib.compareInt; (repeat' split) <;> first | rfl | (exfalso; omega))

theorem dist_eq {ax ay bx b_y : Int} (h1 : Small ax) (h2 : Small ay) (h3 : Small bx) (h4 : Small b_y) :
    wrap64 (wrap64 (wrap64 (ax - bx) * wrap64 (ax - bx)) + wrap64 (wrap64 (ay - b_y) * wrap64 (ay - b_y))) = square ax ay bx b_y := by
  unfold Small at *
  have e1 := mul_le (a := ax - bx) (b := ax - bx) (A := 16384) (B := 16384) (by omega) (by omega)
  have e2 := mul_le (a := ay - b_y) (b := ay - b_y) (A := 16384) (B := 16384) (by omega) (by omega)
  have f1 : (ax - bx) * (ax - bx) = (bx - ax) * (bx - ax) := by
    rw [← Int.neg_mul_neg, Int.neg_sub]
  have f2 : (ay - b_y) * (ay - b_y) = (b_y - ay) * (b_y - ay) := by
    rw [← Int.neg_mul_neg, Int.neg_sub]
  rw [w64 (ax - bx) (by omega), w64 (ay - b_y) (by omega), w64 ((ax - bx) * (ax - bx)) (by omega), w64 ((ay - b_y) * (ay - b_y)) (by omega), w64 _ (by omega), f1, f2]
  rfl

set_option maxHeartbeats 400000 in
theorem dist_any (ax ay bx b_y : Int) (w : World) (h1 : Small ax) (h2 : Small ay) (h3 : Small bx) (h4 : Small b_y) :
    Calls Try.prog 77 #[pt ax ay, pt bx b_y] w fun e w' => e = .returned (.int .i64 (square ax ay bx b_y)) ∧ Below w.heap.size w w' := by
  have e1 := dist_eq h1 h2 h3 h4
  clear h1 h2 h3 h4
  go_enter Try.func77, Try.ntmps77
  go_wp2
  go_ret
  refine ⟨?_, ((Below.refl _ _).alloc (by simp) _).alloc (by simp) _⟩
  show Ending.returned (Value.int IntKind.i64 (wrap64 _)) = _
  rw [← e1]

set_option maxHeartbeats 400000 in
theorem refValid_any (x y : Int) (w : World) :
    Calls Try.prog 21 #[pt x y] w fun e w' => e = .returned (.bool (valid x y)) ∧ Below w.heap.size w w' := by
  obtain ⟨v, hv⟩ : ∃ v, valid x y = v := ⟨_, rfl⟩
  rw [hv]
  go_enter Try.func21, Try.ntmps21
  go_wp2
  all_goals go_ret
  all_goals refine ⟨?_, (Below.refl _ _).alloc (Nat.le_refl _) _⟩
  all_goals rw [← hv]; unfold valid
  all_goals simp [*]
  all_goals (intros; omega)

end Go.Proofs.Ytennldmiepondaa
