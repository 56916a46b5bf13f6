/- Walks: SamePiece of equal pieces; Shows and Marks of the program, told as the reference's. -/
import Derived.Test.YtkmcboincjohlaaGreatGrRG
import Derived.Test.YtkmcboincjohlaaGreatGrLK
import Derived.Test.YtkmcboincjohlaaGreatH0
namespace Go.Proofs.YtkmcboincjohlaaGreat
open Go Go.RowKit Go.Proofs Go.Abs

theorem resD_c (d : PcD) (sh : Int) (b : Bool) : (resD d sh b).c = if d.ok && vset sh d.G.length then (if b then d.r else d.c) else 0 := by
  unfold resD
  split <;> rfl

theorem shows19_D (d : PcD) (vg vm : Value) (sh : Int) (b : Bool) (w : World) (hG : SlG w vg d.G) (hM : SlM w vm d.M) :
    Calls Tryz.prog 15 #[pcs d.id d.c d.r d.m d.s vg vm, st sh b] w fun e w' => e = .returned (.tuple #[.int .i64 (resD d sh b).c, .int .i64 (setE d.ok (vset sh d.G.length))]) ∧ Below w.heap.size w w' := by
  rw [resD_c]
  exact shows19_any d.id d.c d.r d.m d.s vg vm d.G d.M sh b w hG hM

theorem marks21_D (d : PcD) (vg vm : Value) (sh : Int) (b : Bool) (w : World) (hG : SlG w vg d.G) (hM : SlM w vm d.M) :
    Calls Tryz.prog 16 #[pcs d.id d.c d.r d.m d.s vg vm, st sh b] w fun e w' => ∃ v, e = .returned (.tuple #[v, .int .i64 (setE d.ok (vset sh d.G.length))]) ∧ SlM w' v (resD d sh b).M ∧ Below w.heap.size w w' := by
  refine (marks21_any d.id d.c d.r d.m d.s vg vm d.G d.M sh b w hG hM).mono ?_
  rintro e w' ⟨v, rfl, h, hb⟩
  refine ⟨v, rfl, ?_, hb⟩
  unfold MarS at h
  unfold resD
  have e1 : vP d.id d.c d.r d.m d.s d.G d.M = d.ok := rfl
  rw [e1] at h
  by_cases hc : (d.ok && vset sh d.G.length) = true
  · rw [if_pos hc] at h ⊢
    have hs : (sh.toNat : Int) = sh := by
      have := hc
      rw [Bool.and_eq_true] at this
      have hh := this.2
      simp only [vset, Bool.and_eq_true, decide_eq_true_eq] at hh
      omega
    show SlM w' v (shM d.G.length sh.toNat b d.M)
    rw [hs]
    exact h
  · rw [if_neg hc] at h ⊢
    subst h
    exact slm_nil _

end Go.Proofs.YtkmcboincjohlaaGreat
