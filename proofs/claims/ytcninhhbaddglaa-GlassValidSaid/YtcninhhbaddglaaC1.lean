/- Walks: gauges. -/
import Derived.Test.YtcninhhbaddglaaA3
import Derived.Test.YtcninhhbaddglaaB1
namespace Go.Proofs.Ytcninhhbaddglaa
open Go Go.RowKit Go.Proofs

abbrev gg (a b c d e : Int) : Value := .agg #[.int .i64 a, .int .i64 b, .int .i64 c, .int .i64 d, .int .i64 e]

def vG (a b c d e : Int) : Bool := decide (0 < a) && decide (a ≤ b) && decide (b ≤ 33554432) && decide (0 ≤ c) && decide (c ≤ d) && decide (d ≤ 33554432) && wi e (-1) 1

set_option maxRecDepth 100000 in
set_option maxHeartbeats 1000000 in
theorem validGauge_any (a b c d e : Int) (w : World) :
    Calls Try.prog 65 #[gg a b c d e] w fun x w' => x = .returned (.bool (vG a b c d e)) ∧ Below w.heap.size w w' := by
  have C := fun w => within_any e (-1) 1 w
  obtain ⟨v, hv⟩ : ∃ v, vG a b c d e = v := ⟨_, rfl⟩
  rw [hv]
  unfold vG at hv
  generalize wi e (-1) 1 = p at C hv
  have HV := Lib.hid hv
  clear hv
  go_enter Try.func65, Try.ntmps65
  go_wp2_with (go_at_call 36; with_reducible refine (C _).mono ?_; rintro e w1 ⟨rfl, rfl⟩)
  all_goals go_ret
  all_goals refine ⟨?_, (Below.refl _ _).alloc (Nat.le_refl _) _⟩
  all_goals rw [← HV.out]
  all_goals simp [*]
  all_goals (intros; omega)

set_option maxRecDepth 100000 in
set_option maxHeartbeats 1000000 in
theorem refValidGauge_any (a b c d e : Int) (w : World) :
    Calls Try.prog 69 #[gg a b c d e] w fun x w' => x = .returned (.bool (vG a b c d e)) ∧ Below w.heap.size w w' := by
  have C := fun w => refWithin_any e (-1) 1 w
  obtain ⟨v, hv⟩ : ∃ v, vG a b c d e = v := ⟨_, rfl⟩
  rw [hv]
  unfold vG at hv
  generalize wi e (-1) 1 = p at C hv
  have HV := Lib.hid hv
  clear hv
  go_enter Try.func69, Try.ntmps69
  go_wp2_with (go_at_call 39; with_reducible refine (C _).mono ?_; rintro e w1 ⟨rfl, rfl⟩)
  all_goals go_ret
  all_goals refine ⟨?_, (Below.refl _ _).alloc (Nat.le_refl _) _⟩
  all_goals rw [← HV.out]
  all_goals simp [*]
  all_goals (intros; omega)

set_option maxHeartbeats 1000000 in
theorem wrong64_any (a b c d e : Int) (w : World) :
    Calls Try.prog 64 #[gg a b c d e] w fun x w' => x = .returned (.bool (!vG a b c d e)) ∧ Below w.heap.size w w' := by
  have C := fun w => validGauge_any a b c d e w
  generalize vG a b c d e = c1 at C ⊢
  have b0 : Below w.heap.size w (w.alloc (.cells #[.int .i64 a, .int .i64 b, .int .i64 c, .int .i64 d, .int .i64 e] 67)) := (Below.refl _ _).alloc (Nat.le_refl _) _
  go_enter Try.func64, Try.ntmps64
  go_wp2_with fail
  refine (C _).mono ?_
  rintro e w1 ⟨rfl, hb⟩
  go_wp2
  go_ret
  exact ⟨rfl, keep_below b0 hb⟩

end Go.Proofs.Ytcninhhbaddglaa
