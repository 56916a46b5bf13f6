/- Walks: the reference's Square and Turn. -/
import Derived.Test.YtennldmiepondaaW8
namespace Go.Proofs.Ytennldmiepondaa
open Go Go.RowKit Go.Proofs

theorem pts2a (w : World) (ax ay bx b_y : Int) : let w' := (w.alloc (ptObj ax ay)).alloc (ptObj bx b_y)
    Below w.heap.size w w' ∧ w'.cell? ⟨w.heap.size, 0, none⟩ = some (.int .i64 ax) ∧ w'.cell? ⟨w.heap.size, 1, none⟩ = some (.int .i64 ay) ∧ w'.cell? ⟨w.heap.size + 1, 0, none⟩ = some (.int .i64 bx) ∧ w'.cell? ⟨w.heap.size + 1, 1, none⟩ = some (.int .i64 b_y) := by
  have s1 : ∀ (v : World) (o : Obj), (v.alloc o).heap.size = v.heap.size + 1 := fun v o => by simp
  have n1 := pt_new w ax ay
  have n2 := pt_new (w.alloc (ptObj ax ay)) bx b_y
  simp only [s1] at n2
  exact ⟨((Below.refl _ _).alloc (by simp) _).alloc (by simp) _, pt_old _ _ n1.1, pt_old _ _ n1.2, n2.1, n2.2⟩

set_option maxRecDepth 100000 in
set_option maxHeartbeats 1000000 in
theorem refSquare_any (ax ay bx b_y : Int) (w : World) :
    Calls Try.prog 23 #[pt ax ay, pt bx b_y] w fun e w' => e = .returned (.tuple #[.int .i64 (if (valid ax ay && valid bx b_y) = true then square ax ay bx b_y else 0), .int .i64 (if (valid ax ay && valid bx b_y) = true then 0 else 1)]) ∧ Below w.heap.size w w' := by
  go_enter Try.func23, Try.ntmps23
  go_wp2_with (first
    | (go_at_call 21; refine (refValid_any _ _ _).mono ?_; rintro e w1 ⟨rfl, hb⟩
       (first
         | (replace c0 := keep_cell hb c0
            replace c1 := keep_cell hb c1
            replace c2 := keep_cell hb c2
            replace c3 := keep_cell hb c3
            replace b0 := keep_below b0 hb)
         | (obtain ⟨b0, c0, c1, c2, c3⟩ := pts2a w ax ay bx b_y
            replace c0 := keep_cell hb c0
            replace c1 := keep_cell hb c1
            replace c2 := keep_cell hb c2
            replace c3 := keep_cell hb c3
            replace b0 := keep_below b0 hb))
       clear hb)
    | (go_at_call 77; refine (dist_any _ _ _ _ _ (valid_small (x := ax) (y := ay) (by simp_all)).1 (valid_small (x := ax) (y := ay) (by simp_all)).2 (valid_small (x := bx) (y := b_y) (by simp_all)).1 (valid_small (x := bx) (y := b_y) (by simp_all)).2).mono ?_; rintro e w1 ⟨rfl, hb⟩; replace b0 := keep_below b0 hb; clear hb))
  all_goals first
    | (exfalso; simp_all; done)
    | (go_ret2; exact ⟨rfl, b0⟩)

theorem pts3a (w : World) (ax ay bx b_y cx cy : Int) : let w' := ((w.alloc (ptObj ax ay)).alloc (ptObj bx b_y)).alloc (ptObj cx cy)
    Below w.heap.size w w' ∧ w'.cell? ⟨w.heap.size, 0, none⟩ = some (.int .i64 ax) ∧ w'.cell? ⟨w.heap.size, 1, none⟩ = some (.int .i64 ay) ∧ w'.cell? ⟨w.heap.size + 1, 0, none⟩ = some (.int .i64 bx) ∧ w'.cell? ⟨w.heap.size + 1, 1, none⟩ = some (.int .i64 b_y) ∧
    w'.cell? ⟨w.heap.size + 1 + 1, 0, none⟩ = some (.int .i64 cx) ∧ w'.cell? ⟨w.heap.size + 1 + 1, 1, none⟩ = some (.int .i64 cy) := pts3 w ax ay bx b_y cx cy

set_option maxRecDepth 100000 in
set_option maxHeartbeats 2000000 in
theorem refTurn_any (ax ay bx b_y cx cy : Int) (w : World) :
    Calls Try.prog 19 #[pt ax ay, pt bx b_y, pt cx cy] w fun e w' => e = .returned (.tuple #[.int .i64 (if (valid ax ay && (valid bx b_y && valid cx cy)) = true then turn ax ay bx b_y cx cy else 0), .int .i64 (if (valid ax ay && (valid bx b_y && valid cx cy)) = true then 0 else 1)]) ∧ Below w.heap.size w w' := by
  go_enter Try.func19, Try.ntmps19
  go_wp2_with (first
    | (go_at_call 21; refine (refValid_any _ _ _).mono ?_; rintro e w1 ⟨rfl, hb⟩
       (first
         | (replace c0 := keep_cell hb c0
            replace c1 := keep_cell hb c1
            replace c2 := keep_cell hb c2
            replace c3 := keep_cell hb c3
            replace c4 := keep_cell hb c4
            replace c5 := keep_cell hb c5
            replace b0 := keep_below b0 hb)
         | (obtain ⟨b0, c0, c1, c2, c3, c4, c5⟩ := pts3a w ax ay bx b_y cx cy
            replace c0 := keep_cell hb c0
            replace c1 := keep_cell hb c1
            replace c2 := keep_cell hb c2
            replace c3 := keep_cell hb c3
            replace c4 := keep_cell hb c4
            replace c5 := keep_cell hb c5
            replace b0 := keep_below b0 hb))
       clear hb)
    | (go_at_call 65; refine (refCross_any _ _ _ _ _ _ _ (valid_small (x := ax) (y := ay) (by simp_all)).1 (valid_small (x := ax) (y := ay) (by simp_all)).2 (valid_small (x := bx) (y := b_y) (by simp_all)).1 (valid_small (x := bx) (y := b_y) (by simp_all)).2 (valid_small (x := cx) (y := cy) (by simp_all)).1 (valid_small (x := cx) (y := cy) (by simp_all)).2).mono ?_; rintro e w1 ⟨rfl, hb⟩; replace b0 := keep_below b0 hb; clear hb)
    | (go_at_call 75; refine (sign_any _ _).mono ?_; rintro e w1 ⟨rfl, rfl⟩))
  all_goals first
    | (exfalso; simp_all; done)
    | (go_ret2; exact ⟨rfl, b0⟩)

end Go.Proofs.Ytennldmiepondaa
