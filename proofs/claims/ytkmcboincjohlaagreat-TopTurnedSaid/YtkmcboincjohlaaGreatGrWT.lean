/- The abstract machine, part GrWT. -/
import Derived.Test.YtkmcboincjohlaaGreatGrLG
import Derived.Test.YtkmcboincjohlaaGreatGrLQ
import Derived.Test.YtkmcboincjohlaaGreatGrLF
/- Walks: Turn and Meet of the plane at this seat. -/
namespace Go.Proofs.YtkmcboincjohlaaGreat
open Go Go.RowKit Go.Proofs

set_option maxRecDepth 100000 in
set_option maxHeartbeats 1000000 in
theorem turn_any (ax ay bx b_y cx cy : Int) (w : World) :
    Calls Tryz.prog 118 #[pt ax ay, pt bx b_y, pt cx cy] w fun e w' => e = .returned (.tuple #[.int .i64 (if (valid ax ay && (valid bx b_y && valid cx cy)) = true then turn ax ay bx b_y cx cy else 0), .int .i64 (if (valid ax ay && (valid bx b_y && valid cx cy)) = true then 0 else 1)]) ∧ Below w.heap.size w w' := by
  go_enter Tryz.func118, Tryz.ntmps118
  go_wp2_with fail
  have hl := validList_any [(ax, ay), (bx, b_y), (cx, cy)] 3 (((w.alloc (ptObj ax ay)).alloc (ptObj bx b_y)).alloc (ptObj cx cy)) _ (by simp) rfl
  have s1 : ∀ (v : World) (o : Obj), (v.alloc o).heap.size = v.heap.size + 1 := fun v o => by simp
  rw [s1, s1, s1] at hl
  refine Calls.mono hl ?_
  clear hl s1
  rintro e w1 ⟨rfl, hb⟩
  obtain ⟨b0, c0, c1, c2, c3, c4, c5⟩ := pts3o w ax ay bx b_y cx cy (.cells ⟨ptCells [(ax, ay), (bx, b_y), (cx, cy)]⟩ 96)
  replace c0 := keep_cell hb c0
  replace c1 := keep_cell hb c1
  replace c2 := keep_cell hb c2
  replace c3 := keep_cell hb c3
  replace c4 := keep_cell hb c4
  replace c5 := keep_cell hb c5
  replace b0 := keep_below b0 hb
  clear hb
  have hv : ([(ax, ay), (bx, b_y), (cx, cy)].all fun p => valid p.1 p.2) = (valid ax ay && (valid bx b_y && valid cx cy)) := by simp
  rw [hv]
  clear hv
  cases h : valid ax ay && (valid bx b_y && valid cx cy)
  · go_wp2
    all_goals first
      | (exfalso; simp_all; done)
      | (go_ret2; exact ⟨rfl, b0⟩)
  · have hh := h
    simp only [Bool.and_eq_true] at hh
    obtain ⟨s1, s2⟩ := valid_small hh.1
    obtain ⟨s3, s4⟩ := valid_small hh.2.1
    obtain ⟨s5, s6⟩ := valid_small hh.2.2
    clear hh
    go_wp2_with (first
      | (go_at_call 89; refine (cross_any _ _ _ _ _ _ _ (by assumption) (by assumption) (by assumption) (by assumption) (by assumption) (by assumption)).mono ?_; rintro e w2 ⟨rfl, hb⟩)
      | (go_at_call 85; refine (compare_any _ _ _).mono ?_; rintro e w3 ⟨rfl, rfl⟩))
    all_goals first
      | (exfalso; simp_all; done)
      | (go_ret2; exact ⟨rfl, keep_below b0 hb⟩)

set_option maxRecDepth 100000 in
set_option maxHeartbeats 1000000 in
theorem meetP_any (ax ay bx b_y cx cy dx dy : Int) (w : World) :
    Calls Tryz.prog 175 #[pt ax ay, pt bx b_y, pt cx cy, pt dx dy] w fun e w' => e = .returned (.tuple #[.int .i64 (meetV ax ay bx b_y cx cy dx dy), .int .i64 (meetE ax ay bx b_y cx cy dx dy)]) ∧ Below w.heap.size w w' := by
  unfold meetV meetE
  go_enter Tryz.func175, Tryz.ntmps175
  go_wp2_with fail
  have hl := validList_any [(ax, ay), (bx, b_y), (cx, cy), (dx, dy)] 4 ((((w.alloc (ptObj ax ay)).alloc (ptObj bx b_y)).alloc (ptObj cx cy)).alloc (ptObj dx dy)) _ (by simp) rfl
  have s1 : ∀ (v : World) (o : Obj), (v.alloc o).heap.size = v.heap.size + 1 := fun v o => by simp
  rw [s1, s1, s1, s1] at hl
  refine Calls.mono hl ?_
  clear hl s1
  rintro e w1 ⟨rfl, hb⟩
  have hP := ((Pts.start w ax ay bx b_y cx cy dx dy).keep ((Below.refl _ _).alloc (Nat.le_refl _) (.cells ⟨ptCells [(ax, ay), (bx, b_y), (cx, cy), (dx, dy)]⟩ 96))).keep hb
  clear hb
  obtain ⟨hbe, hn, c0, c1, c2, c3, c4, c5, c6, c7⟩ := hP
  have hv : ([(ax, ay), (bx, b_y), (cx, cy), (dx, dy)].all fun p => valid p.1 p.2) = allV ax ay bx b_y cx cy dx dy := by simp [allV]
  rw [hv]
  clear hv
  cases h : allV ax ay bx b_y cx cy dx dy
  · go_wp2
    all_goals first
      | (exfalso; simp_all; done)
      | (go_ret2; exact ⟨rfl, hbe⟩)
  · obtain ⟨⟨s1, s2⟩, ⟨s3, s4⟩, ⟨s5, s6⟩, s7, s8⟩ := allV_small h
    go_wp2_with (first
      | (go_at_call 91; refine (meet_any _ _ _ _ _ _ _ _ _ (by assumption) (by assumption) (by assumption) (by assumption) (by assumption) (by assumption) (by assumption) (by assumption)).mono ?_; rintro e w2 ⟨rfl, hb⟩))
    all_goals first
      | (exfalso; simp_all; done)
      | (go_ret2; exact ⟨rfl, keep_below hbe hb⟩)


end Go.Proofs.YtkmcboincjohlaaGreat

/- A larger table of the least functions' contracts. -/
namespace Go.Proofs.YtkmcboincjohlaaGreat
open Go Go.RowKit Go.Proofs Go.Abs

def cmpPF : List Value → Option Value
  | [.agg ⟨[.int .i64 px, .int .i64 py]⟩, .agg ⟨[.int .i64 qx, .int .i64 qy]⟩] => some (.int .i64 (cmpP px py qx qy))
  | _ => none
def validF : List Value → Option Value
  | [.agg ⟨[.int .i64 x, .int .i64 y]⟩] => some (.bool (valid x y))
  | _ => none
def meetF : List Value → Option Value
  | [.agg ⟨[.int .i64 ax, .int .i64 ay]⟩, .agg ⟨[.int .i64 bx, .int .i64 b_y]⟩, .agg ⟨[.int .i64 cx, .int .i64 cy]⟩, .agg ⟨[.int .i64 dx, .int .i64 dy]⟩] =>
    if sm ax && sm ay && sm bx && sm b_y && sm cx && sm cy && sm dx && sm dy then some (.int .i64 (meetS ax ay bx b_y cx cy dx dy)) else none
  | _ => none
def meetPF : List Value → Option Value
  | [.agg ⟨[.int .i64 ax, .int .i64 ay]⟩, .agg ⟨[.int .i64 bx, .int .i64 b_y]⟩, .agg ⟨[.int .i64 cx, .int .i64 cy]⟩, .agg ⟨[.int .i64 dx, .int .i64 dy]⟩] =>
    some (.tuple #[.int .i64 (meetV ax ay bx b_y cx cy dx dy), .int .i64 (meetE ax ay bx b_y cx cy dx dy)])
  | _ => none
def turnF : List Value → Option Value
  | [.agg ⟨[.int .i64 ax, .int .i64 ay]⟩, .agg ⟨[.int .i64 bx, .int .i64 b_y]⟩, .agg ⟨[.int .i64 cx, .int .i64 cy]⟩] =>
    some (.tuple #[.int .i64 (if (valid ax ay && (valid bx b_y && valid cx cy)) = true then turn ax ay bx b_y cx cy else 0), .int .i64 (if (valid ax ay && (valid bx b_y && valid cx cy)) = true then 0 else 1)])
  | _ => none

def leafT2 : Tab := orT (pureT 90 cmpPF) (orT (pureT 87 validF) (orT (pureT 91 meetF) (orT (pureT 175 meetPF) (orT (pureT 118 turnF) leafT))))

theorem leaf2_ok : SoundF Tryz.prog leafT2 := by
  refine orT_sound (pureT_sound (body_of (by kernel_rfl)) ?_) (orT_sound (pureT_sound (body_of (by kernel_rfl)) ?_) (orT_sound (pureT_sound (body_of (by kernel_rfl)) ?_) (orT_sound (pureT_sound (body_of (by kernel_rfl)) ?_) (orT_sound (pureT_sound (body_of (by kernel_rfl)) ?_) leaf_ok))))
  · intro l v h
    unfold cmpPF at h
    split at h
    · cases h
      exact ⟨rfl, rfl, fun w => compareP_any _ _ _ _ w⟩
    · cases h
  · intro l v h
    unfold validF at h
    split at h
    · cases h
      exact ⟨rfl, rfl, fun w => validPoint_any _ _ w⟩
    · cases h
  · intro l v h
    unfold meetF at h
    split at h
    · split at h
      · rename_i hs
        simp only [Bool.and_eq_true] at hs
        obtain ⟨⟨⟨⟨⟨⟨⟨s1, s2⟩, s3⟩, s4⟩, s5⟩, s6⟩, s7⟩, s8⟩ := hs
        cases h
        exact ⟨rfl, rfl, fun w => meet_any _ _ _ _ _ _ _ _ w (sm_small s1) (sm_small s2) (sm_small s3) (sm_small s4) (sm_small s5) (sm_small s6) (sm_small s7) (sm_small s8)⟩
      · cases h
    · cases h
  · intro l v h
    unfold meetPF at h
    split at h
    · cases h
      exact ⟨rfl, rfl, fun w => meetP_any _ _ _ _ _ _ _ _ w⟩
    · cases h
  · intro l v h
    unfold turnF at h
    split at h
    · cases h
      exact ⟨rfl, rfl, fun w => turn_any _ _ _ _ _ _ w⟩
    · cases h

end Go.Proofs.YtkmcboincjohlaaGreat
