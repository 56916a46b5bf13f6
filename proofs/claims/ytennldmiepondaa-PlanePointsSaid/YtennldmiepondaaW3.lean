/- Walks: onSegment. -/
import Derived.Test.YtennldmiepondaaW2
namespace Go.Proofs.Ytennldmiepondaa
open Go Go.RowKit Go.Proofs

theorem pts3 (w : World) (ax ay bx b_y cx cy : Int) : (fun w' => Below w.heap.size w w' ∧ w'.cell? ⟨w.heap.size, 0, none⟩ = some (.int .i64 ax) ∧ w'.cell? ⟨w.heap.size, 1, none⟩ = some (.int .i64 ay) ∧ w'.cell? ⟨w.heap.size + 1, 0, none⟩ = some (.int .i64 bx) ∧ w'.cell? ⟨w.heap.size + 1, 1, none⟩ = some (.int .i64 b_y) ∧
    w'.cell? ⟨w.heap.size + 1 + 1, 0, none⟩ = some (.int .i64 cx) ∧ w'.cell? ⟨w.heap.size + 1 + 1, 1, none⟩ = some (.int .i64 cy)) (((w.alloc (ptObj ax ay)).alloc (ptObj bx b_y)).alloc (ptObj cx cy)) := by
  have s1 : ∀ (v : World) (o : Obj), (v.alloc o).heap.size = v.heap.size + 1 := fun v o => by simp
  have n1 := pt_new w ax ay
  have n2 := pt_new (w.alloc (ptObj ax ay)) bx b_y
  have n3 := pt_new ((w.alloc (ptObj ax ay)).alloc (ptObj bx b_y)) cx cy
  simp only [s1] at n2 n3
  exact ⟨(((Below.refl _ _).alloc (by simp) _).alloc (by simp) _).alloc (by simp; omega) _, pt_old _ _ (pt_old _ _ n1.1), pt_old _ _ (pt_old _ _ n1.2), pt_old _ _ n2.1, pt_old _ _ n2.2, n3.1, n3.2⟩

def onSeg (px py ax ay bx b_y : Int) : Bool := decide (cross ax ay bx b_y px py = 0) && (decide (min ax bx ≤ px) && (decide (px ≤ max ax bx) && (decide (min ay b_y ≤ py) && decide (py ≤ max ay b_y))))

set_option maxHeartbeats 1000000 in
theorem onSegment_any (px py ax ay bx b_y : Int) (w : World) (h1 : Small ax) (h2 : Small ay) (h3 : Small bx) (h4 : Small b_y) (h5 : Small px) (h6 : Small py) :
    Calls Try.prog 130 #[pt px py, pt ax ay, pt bx b_y] w fun e w' => e = .returned (.bool (onSeg px py ax ay bx b_y)) ∧ Below w.heap.size w w' := by
  obtain ⟨v, hv⟩ : ∃ v, onSeg px py ax ay bx b_y = v := ⟨_, rfl⟩
  rw [hv]
  go_enter Try.func130, Try.ntmps130
  go_wp2_with (first
      | (go_at_call 74; refine (cross_any _ _ _ _ _ _ _ (by assumption) (by assumption) (by assumption) (by assumption) (by assumption) (by assumption)).mono ?_; rintro e w' ⟨rfl, hb⟩
         obtain ⟨b0, c0, c1, c2, c3, c4, c5⟩ := pts3 w px py ax ay bx b_y
         have k0 := keep_cell hb c0
         have k1 := keep_cell hb c1
         have k2 := keep_cell hb c2
         have k3 := keep_cell hb c3
         have k4 := keep_cell hb c4
         have k5 := keep_cell hb c5
         have kb := keep_below b0 hb
         clear c0 c1 c2 c3 c4 c5 b0 hb))
  all_goals go_ret
  all_goals refine ⟨?_, by assumption⟩
  all_goals (subst hv; refine congrArg (fun x => Ending.returned (Value.bool x)) ?_)
  all_goals (show _ = onSeg px py ax ay bx b_y)
  all_goals (unfold onSeg; rw [Bool.eq_iff_iff])
  all_goals simp only [Bool.and_eq_true, decide_eq_true_eq, Bool.false_eq_true, false_iff]
  all_goals omega

end Go.Proofs.Ytennldmiepondaa
