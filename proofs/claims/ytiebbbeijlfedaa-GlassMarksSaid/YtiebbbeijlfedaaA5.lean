/- Walks: contains, one. -/
import Derived.Test.YtiebbbeijlfedaaA4
namespace Go.Proofs.Ytiebbbeijlfedaa
open Go Go.RowKit Go.Proofs

abbrev spn (lo hi : Int) : Value := .agg #[.int .i64 lo, .int .i64 hi]
abbrev spnObj (lo hi : Int) : Obj := .cells #[.int .i64 lo, .int .i64 hi] 42

theorem spn_new (w : World) (lo hi : Int) : (w.alloc (spnObj lo hi)).cell? ⟨w.heap.size, 0, none⟩ = some (.int .i64 lo) ∧ (w.alloc (spnObj lo hi)).cell? ⟨w.heap.size, 1, none⟩ = some (.int .i64 hi) := by
  constructor <;> go_simp

set_option maxHeartbeats 400000 in
theorem contains51_any (lo hi n : Int) (w : World) :
    Calls Try.prog 51 #[spn lo hi, .int .i64 n] w fun e w' => e = .returned (.bool (wi n lo hi)) ∧ Below w.heap.size w w' := by
  have C := fun w => within_any n lo hi w
  generalize wi n lo hi = c at C ⊢
  go_enter Try.func51, Try.ntmps51
  go_wp2_with fail
  refine (C _).mono ?_
  rintro e w1 ⟨rfl, rfl⟩
  go_wp2
  go_ret
  exact ⟨rfl, (Below.refl _ _).alloc (Nat.le_refl _) _⟩

set_option maxHeartbeats 400000 in
theorem one_any (n : Int) (w : World) :
    Calls Try.prog 46 #[.int .i64 n] w fun e w' => e = .returned (spn n n) ∧ Below w.heap.size w w' := by
  go_enter Try.func46, Try.ntmps46
  go_wp2
  refine bodyPost_ret (v := spn n n) ?_ rfl ⟨rfl, ?_⟩
  · simp [results, Try.results46, go_sem]
  · exact (Below.refl _ _).alloc (Nat.le_refl _) _

end Go.Proofs.Ytiebbbeijlfedaa
