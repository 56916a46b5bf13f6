/- Walks: Turn. -/
import Derived.Test.YtennldmiepondaaW6
namespace Go.Proofs.Ytennldmiepondaa
open Go Go.RowKit Go.Proofs

theorem pts3o (w : World) (ax ay bx b_y cx cy : Int) (o : Obj) : let w' := (((w.alloc (ptObj ax ay)).alloc (ptObj bx b_y)).alloc (ptObj cx cy)).alloc o
    Below w.heap.size w w' ∧ w'.cell? ⟨w.heap.size, 0, none⟩ = some (.int .i64 ax) ∧ w'.cell? ⟨w.heap.size, 1, none⟩ = some (.int .i64 ay) ∧ w'.cell? ⟨w.heap.size + 1, 0, none⟩ = some (.int .i64 bx) ∧ w'.cell? ⟨w.heap.size + 1, 1, none⟩ = some (.int .i64 b_y) ∧
    w'.cell? ⟨w.heap.size + 1 + 1, 0, none⟩ = some (.int .i64 cx) ∧ w'.cell? ⟨w.heap.size + 1 + 1, 1, none⟩ = some (.int .i64 cy) := by
  obtain ⟨b, c0, c1, c2, c3, c4, c5⟩ := pts3 w ax ay bx b_y cx cy
  exact ⟨b.alloc b.size _, pt_old _ _ c0, pt_old _ _ c1, pt_old _ _ c2, pt_old _ _ c3, pt_old _ _ c4, pt_old _ _ c5⟩

def turn (ax ay bx b_y cx cy : Int) : Int := Lib.compareInt (cross ax ay bx b_y cx cy) 0

set_option maxRecDepth 100000 in
set_option maxHeartbeats 1000000 in
theorem turn_any (ax ay bx b_y cx cy : Int) (w : World) :
    Calls Try.prog 18 #[pt ax ay, pt bx b_y, pt cx cy] w fun e w' => e = .returned (.tuple #[.int .i64 (if (valid ax ay && (valid bx b_y && valid cx cy)) = true then turn ax ay bx b_y cx cy else 0), .int .i64 (if (valid ax ay && (valid bx b_y && valid cx cy)) = true then 0 else 1)]) ∧ Below w.heap.size w w' := by
  go_enter Try.func18, Try.ntmps18
  go_wp2_with fail
  have hl := validList_any [(ax, ay), (bx, b_y), (cx, cy)] 3 (((w.alloc (ptObj ax ay)).alloc (ptObj bx b_y)).alloc (ptObj cx cy)) _ (by simp) rfl
  have s1 : ∀ (v : World) (o : Obj), (v.alloc o).heap.size = v.heap.size + 1 := fun v o => by simp
  rw [s1, s1, s1] at hl
  refine Calls.mono hl ?_
  clear hl s1
  rintro e w1 ⟨rfl, hb⟩
  obtain ⟨b0, c0, c1, c2, c3, c4, c5⟩ := pts3o w ax ay bx b_y cx cy (.cells ⟨ptCells [(ax, ay), (bx, b_y), (cx, cy)]⟩ 23)
  replace c0 := keep_cell hb c0
  replace c1 := keep_cell hb c1
  replace c2 := keep_cell hb c2
  replace c3 := keep_cell hb c3
  replace c4 := keep_cell hb c4
  replace c5 := keep_cell hb c5
  replace b0 := keep_below b0 hb
  clear hb
  have hv : ([(ax, ay), (bx, b_y), (cx, cy)].all fun p => valid p.1 p.2) = (valid ax ay && (valid bx b_y && valid cx cy)) := by simp
  rw [hv]
  clear hv
  cases h : valid ax ay && (valid bx b_y && valid cx cy)
  · go_wp2
    all_goals first
      | (exfalso; simp_all; done)
      | (go_ret2; exact ⟨rfl, b0⟩)
  · have hh := h
    simp only [Bool.and_eq_true] at hh
    obtain ⟨s1, s2⟩ := valid_small hh.1
    obtain ⟨s3, s4⟩ := valid_small hh.2.1
    obtain ⟨s5, s6⟩ := valid_small hh.2.2
    clear hh
    go_wp2_with (first
      | (go_at_call 74; refine (cross_any _ _ _ _ _ _ _ (by assumption) (by assumption) (by assumption) (by assumption) (by assumption) (by assumption)).mono ?_; rintro e w2 ⟨rfl, hb⟩)
      | (go_at_call 73; refine (compare_any _ _ _).mono ?_; rintro e w3 ⟨rfl, rfl⟩))
    all_goals first
      | (exfalso; simp_all; done)
      | (go_ret2; exact ⟨rfl, keep_below b0 hb⟩)

end Go.Proofs.Ytennldmiepondaa
