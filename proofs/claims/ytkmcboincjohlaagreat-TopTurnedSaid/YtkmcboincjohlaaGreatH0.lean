/- Rows of marks of one's own. -/
import Derived.Test.YtkmcboincjohlaaGreatGrLB
import Derived.Test.YtkmcboincjohlaaGreatGrLA
import Derived.Laws.OwnMore
namespace Go.Proofs.YtkmcboincjohlaaGreat
open Go Go.RowKit Go.Proofs

theorem info61 : (Tryz.prog.info? 59).map (fun i => (i.zero, i.size, i.bytes)) = some (some (mk 0 0 0), 3, 24) := by kernel_rfl

/-- The cells of marks. -/
def mv1 (m : M3) : List Value := [.int .i64 m.x, .int .i64 m.y, .int .i64 m.z]
def mv (L : List M3) : List Value := L.flatMap mv1

theorem mv_len (L : List M3) : (mv L).length = L.length * 3 := by
  induction L with
  | nil => rfl
  | cons a L ih =>
    have : mv (a :: L) = mv1 a ++ mv L := rfl
    rw [this, List.length_append, ih]
    simp [mv1]; omega

theorem mv_get : ∀ (L : List M3) (k : Nat), k < L.length → (mv L)[k * 3]? = some (.int .i64 (mq L k).x) ∧ (mv L)[k * 3 + 1]? = some (.int .i64 (mq L k).y) ∧ (mv L)[k * 3 + 2]? = some (.int .i64 (mq L k).z)
  | [], k, h => absurd h (Nat.not_lt_zero _)
  | a :: L, 0, _ => ⟨rfl, rfl, rfl⟩
  | a :: L, k + 1, h => by
    obtain ⟨h0, h1, h2⟩ := mv_get L k (by simpa using h)
    have e : mv (a :: L) = mv1 a ++ mv L := rfl
    have q : mq (a :: L) (k + 1) = mq L k := rfl
    rw [e, q]
    refine ⟨?_, ?_, ?_⟩
    · rw [List.getElem?_append_right (by simp [mv1]; omega), ← h0]; congr 1; simp [mv1]; omega
    · rw [List.getElem?_append_right (by simp [mv1]; omega), ← h1]; congr 1; simp [mv1]; omega
    · rw [List.getElem?_append_right (by simp [mv1]; omega), ← h2]; congr 1; simp [mv1]; omega

theorem slm_nil (w : World) : SlM w (.slice none 0 0) [] := ⟨none, 0, rfl, by simp, fun k hk => absurd hk (Nat.not_lt_zero _)⟩

end Go.Proofs.YtkmcboincjohlaaGreat
