/- The abstract machine, part GrLQ. -/
import Derived.Test.YtkmcboincjohlaaGreatGrAbsE
import Derived.Test.YtkmcboincjohlaaGreatProg
import Derived.KernelRfl
import Derived.Test.YtkmcboincjohlaaGreatGrLA
/- The program's tables, as the abstract machine asks. -/
namespace Go.Abs
open Go Go.RowKit Go.Proofs

theorem types_ok : typesOk Tryz.prog.types.toList = true := by kernel_rfl

theorem names_ok : namesOk Tryz.prog.funcs.toList = true := by kernel_rfl

theorem pok : POk Tryz.prog := pok_of types_ok names_ok (by kernel_rfl)

end Go.Abs

/- A table of the least functions' contracts. -/
namespace Go.Proofs.YtkmcboincjohlaaGreat
open Go Go.RowKit Go.Proofs Go.Abs

def sm (x : Int) : Bool := decide (-8192 ≤ x) && decide (x ≤ 8192)

theorem sm_small {x : Int} (h : sm x = true) : Small x := by
  simp only [sm, Bool.and_eq_true, decide_eq_true_eq] at h
  exact h

def compareF : List Value → Option Value
  | [.int .i64 x, .int .i64 y] => some (.int .i64 (Lib.compareInt x y))
  | _ => none

def crossF : List Value → Option Value
  | [.agg ⟨[.int .i64 ax, .int .i64 ay]⟩, .agg ⟨[.int .i64 bx, .int .i64 b_y]⟩, .agg ⟨[.int .i64 cx, .int .i64 cy]⟩] =>
    if sm ax && sm ay && sm bx && sm b_y && sm cx && sm cy then some (.int .i64 (cross ax ay bx b_y cx cy)) else none
  | _ => none

def onSegF : List Value → Option Value
  | [.agg ⟨[.int .i64 px, .int .i64 py]⟩, .agg ⟨[.int .i64 ax, .int .i64 ay]⟩, .agg ⟨[.int .i64 bx, .int .i64 b_y]⟩] =>
    if sm ax && sm ay && sm bx && sm b_y && sm px && sm py then some (.bool (onSeg px py ax ay bx b_y)) else none
  | _ => none

def partedF : List Value → Option Value
  | [.agg ⟨[.int .i64 ax, .int .i64 ay]⟩, .agg ⟨[.int .i64 bx, .int .i64 b_y]⟩, .agg ⟨[.int .i64 cx, .int .i64 cy]⟩, .agg ⟨[.int .i64 dx, .int .i64 dy]⟩] =>
    if sm ax && sm ay && sm bx && sm b_y && sm cx && sm cy && sm dx && sm dy then some (.bool (parted ax ay bx b_y cx cy dx dy)) else none
  | _ => none

def leafT : Tab := orT (pureT 85 compareF) (orT (pureT 89 crossF) (orT (pureT 133 onSegF) (pureT 132 partedF)))

theorem body_of {g : FuncId} (h : ((Tryz.prog.funcs[g]?).bind (·.body)).isSome = true) : ∃ fn c, Tryz.prog.funcs[g]? = some fn ∧ fn.body = some c := by
  cases hf : Tryz.prog.funcs[g]? with
  | none => rw [hf] at h; cases h
  | some fn =>
    rw [hf] at h
    cases hb : fn.body with
    | none => simp [hb] at h
    | some c => exact ⟨fn, c, rfl, hb⟩

theorem leaf_ok : SoundF Tryz.prog leafT := by
  refine orT_sound (pureT_sound (body_of (by kernel_rfl)) ?_) (orT_sound (pureT_sound (body_of (by kernel_rfl)) ?_) (orT_sound (pureT_sound (body_of (by kernel_rfl)) ?_) (pureT_sound (body_of (by kernel_rfl)) ?_)))
  · intro l v h
    unfold compareF at h
    split at h
    · cases h
      exact ⟨rfl, rfl, fun w => (compare_any _ _ w).mono fun e w' hh => ⟨hh.1, by rw [hh.2]; exact Below.refl _ _⟩⟩
    · cases h
  · intro l v h
    unfold crossF at h
    split at h
    · split at h
      · rename_i hs
        simp only [Bool.and_eq_true] at hs
        obtain ⟨⟨⟨⟨⟨s1, s2⟩, s3⟩, s4⟩, s5⟩, s6⟩ := hs
        cases h
        exact ⟨rfl, rfl, fun w => cross_any _ _ _ _ _ _ w (sm_small s1) (sm_small s2) (sm_small s3) (sm_small s4) (sm_small s5) (sm_small s6)⟩
      · cases h
    · cases h
  · intro l v h
    unfold onSegF at h
    split at h
    · split at h
      · rename_i hs
        simp only [Bool.and_eq_true] at hs
        obtain ⟨⟨⟨⟨⟨s1, s2⟩, s3⟩, s4⟩, s5⟩, s6⟩ := hs
        cases h
        exact ⟨rfl, rfl, fun w => onSegment_any _ _ _ _ _ _ w (sm_small s1) (sm_small s2) (sm_small s3) (sm_small s4) (sm_small s5) (sm_small s6)⟩
      · cases h
    · cases h
  · intro l v h
    unfold partedF at h
    split at h
    · split at h
      · rename_i hs
        simp only [Bool.and_eq_true] at hs
        obtain ⟨⟨⟨⟨⟨⟨⟨s1, s2⟩, s3⟩, s4⟩, s5⟩, s6⟩, s7⟩, s8⟩ := hs
        cases h
        exact ⟨rfl, rfl, fun w => parted_any _ _ _ _ _ _ _ _ w (sm_small s1) (sm_small s2) (sm_small s3) (sm_small s4) (sm_small s5) (sm_small s6) (sm_small s7) (sm_small s8)⟩
      · cases h
    · cases h

end Go.Proofs.YtkmcboincjohlaaGreat
