/- Walks: the reference's On. -/
import Derived.Test.YtiebbbeijlfedaaWB
namespace Go.Proofs.Ytiebbbeijlfedaa
open Go Go.RowKit Go.Proofs

set_option maxHeartbeats 1000000 in
theorem refOn_any (ax ay bx b_y px py : Int) (w : World) (h1 : Small ax) (h2 : Small ay) (h3 : Small bx) (h4 : Small b_y) (h5 : Small px) (h6 : Small py) :
    Calls Try.prog 116 #[pt ax ay, pt bx b_y, pt px py] w fun e w' => e = .returned (.bool (onSeg px py ax ay bx b_y)) ∧ Below w.heap.size w w' := by
  obtain ⟨v, hv⟩ : ∃ v, onSeg px py ax ay bx b_y = v := ⟨_, rfl⟩
  rw [hv]
  go_enter Try.func116, Try.ntmps116
  go_wp2_with (first
      | (go_at_call 85; refine (refCross_any _ _ _ _ _ _ _ (by assumption) (by assumption) (by assumption) (by assumption) (by assumption) (by assumption)).mono ?_; rintro e w' ⟨rfl, hb⟩
         obtain ⟨b0, c0, c1, c2, c3, c4, c5⟩ := pts3 w ax ay bx b_y px py
         have k0 := keep_cell hb c0
         have k1 := keep_cell hb c1
         have k2 := keep_cell hb c2
         have k3 := keep_cell hb c3
         have k4 := keep_cell hb c4
         have k5 := keep_cell hb c5
         have kb := keep_below b0 hb
         clear c0 c1 c2 c3 c4 c5 b0 hb))
  all_goals go_ret
  all_goals refine ⟨?_, by assumption⟩
  all_goals (subst hv; refine congrArg (fun x => Ending.returned (Value.bool x)) ?_)
  all_goals (show _ = onSeg px py ax ay bx b_y)
  all_goals (unfold onSeg; rw [Bool.eq_iff_iff])
  all_goals simp only [Bool.and_eq_true, decide_eq_true_eq, Bool.false_eq_true, false_iff]
  all_goals omega

end Go.Proofs.Ytiebbbeijlfedaa
