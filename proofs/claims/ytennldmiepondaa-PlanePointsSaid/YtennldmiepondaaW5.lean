/- Walks: square. -/
import Derived.Test.YtennldmiepondaaW3
namespace Go.Proofs.Ytennldmiepondaa
open Go Go.RowKit Go.Proofs

def square (ax ay bx b_y : Int) : Int := (bx - ax) * (bx - ax) + (b_y - ay) * (b_y - ay)

theorem square_eq {ax ay bx b_y : Int} (h1 : Small ax) (h2 : Small ay) (h3 : Small bx) (h4 : Small b_y) :
    wrap64 (wrap64 (wrap64 (bx - ax) * wrap64 (bx - ax)) + wrap64 (wrap64 (b_y - ay) * wrap64 (b_y - ay))) = square ax ay bx b_y := by
  unfold Small at *
  have e1 := mul_le (a := bx - ax) (b := bx - ax) (A := 16384) (B := 16384) (by omega) (by omega)
  have e2 := mul_le (a := b_y - ay) (b := b_y - ay) (A := 16384) (B := 16384) (by omega) (by omega)
  rw [w64 (bx - ax) (by omega), w64 (b_y - ay) (by omega), w64 ((bx - ax) * (bx - ax)) (by omega), w64 ((b_y - ay) * (b_y - ay)) (by omega), w64 _ (by omega)]
  rfl

set_option maxHeartbeats 400000 in
theorem square_any (ax ay bx b_y : Int) (w : World) (h1 : Small ax) (h2 : Small ay) (h3 : Small bx) (h4 : Small b_y) :
    Calls Try.prog 76 #[pt ax ay, pt bx b_y] w fun e w' => e = .returned (.int .i64 (square ax ay bx b_y)) ∧ Below w.heap.size w w' := by
  have e1 := square_eq h1 h2 h3 h4
  clear h1 h2 h3 h4
  go_enter Try.func76, Try.ntmps76
  go_wp2
  go_ret
  refine ⟨?_, ((Below.refl _ _).alloc (by simp) _).alloc (by simp) _⟩
  show Ending.returned (Value.int IntKind.i64 (wrap64 _)) = _
  rw [← e1]

def allValid (xs ys : Nat → Int) (n : Nat) : Bool := (List.range n).all fun j => valid (xs j) (ys j)

theorem allValid_succ (xs ys : Nat → Int) (n : Nat) : allValid xs ys (n + 1) = (allValid xs ys n && valid (xs n) (ys n)) := by
  simp [allValid, List.range_succ, List.all_append]

theorem allValid_false {xs ys : Nat → Int} {k n : Nat} (hk : k < n) (h : valid (xs k) (ys k) = false) : allValid xs ys n = false := by
  unfold allValid
  rw [List.all_eq_false]
  exact ⟨k, List.mem_range.2 hk, by simp [h]⟩

set_option maxHeartbeats 1000000 in
theorem validPoints_any (xs ys : Nat → Int) (b off n cap : Nat) (w : World) (hn : n ≤ 9223372036854775807) (hc : ∀ k, k < n → w.cell? ⟨b, off + k * 2, none⟩ = some (.int .i64 (xs k)) ∧ w.cell? ⟨b, off + k * 2 + 1, none⟩ = some (.int .i64 (ys k))) :
    Calls Try.prog 72 #[.slice (some ⟨b, off, none⟩) n cap] w fun e w' => e = .returned (.bool (allValid xs ys n)) ∧ Below w.heap.size w w' := by
  go_enter Try.func72, Try.ntmps72
  go_wp2_with fail
  go_loopw [7] (fun i wr => ∃ k : Nat, k ≤ n ∧ i = .int .i64 k ∧ Below w.heap.size w wr ∧ allValid xs ys k = true) (fun i _ => n - (intOf i).toNat)
  case atStart => exact ⟨0, Nat.zero_le _, rfl, Below.refl _ _, rfl⟩
  case round =>
    obtain ⟨k, hk, rfl, hbel, hall⟩ := hrel
    have hx : k < n → wr.cell? ⟨b, off + k * 2, none⟩ = some (.int .i64 (xs k)) := fun h => (hbel.cell (lt_of_cell (hc k h).1)).trans (hc k h).1
    have hy : k < n → wr.cell? ⟨b, off + k * 2 + 1, none⟩ = some (.int .i64 (ys k)) := fun h => (hbel.cell (lt_of_cell (hc k h).2)).trans (hc k h).2
    clear hc
    go_wp2_with (first
      | (go_at_call 20; refine (validPoint_any _ _ _).mono ?_; rintro e w1 ⟨rfl, hb⟩))
    · have hk' : k < n := by assumption
      have hv : (!valid (xs k) (ys k)) = true := by assumption
      go_ret
      refine ⟨?_, keep_below (hbel.alloc hbel.size _) hb⟩
      rw [allValid_false hk' (by simpa using hv)]
      rfl
    · have hk' : k < n := by assumption
      have hv : (!valid (xs k) (ys k)) = false := by assumption
      refine ⟨⟨k + 1, hk', by simp, keep_below (hbel.alloc hbel.size _) hb, ?_⟩, by simp [intOf]; omega⟩
      rw [allValid_succ, hall]
      simpa using hv
    · have hk' : ¬ k < n := by assumption
      go_ret
      refine ⟨?_, hbel⟩
      have : k = n := by omega
      subst this
      rw [hall]
      rfl

end Go.Proofs.Ytennldmiepondaa
