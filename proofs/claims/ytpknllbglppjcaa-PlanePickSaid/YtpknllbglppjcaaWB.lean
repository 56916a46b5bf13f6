/- The abstract machine, part WB. -/
import Derived.Test.YtpknllbglppjcaaWA
/- Walks: square. -/
namespace Go.Proofs.Ytpknllbglppjcaa
open Go Go.RowKit Go.Proofs

def square (ax ay bx b_y : Int) : Int := (bx - ax) * (bx - ax) + (b_y - ay) * (b_y - ay)

def allValid (xs ys : Nat → Int) (n : Nat) : Bool := (List.range n).all fun j => valid (xs j) (ys j)

theorem allValid_succ (xs ys : Nat → Int) (n : Nat) : allValid xs ys (n + 1) = (allValid xs ys n && valid (xs n) (ys n)) := by
  simp [allValid, List.range_succ, List.all_append]

theorem allValid_false {xs ys : Nat → Int} {k n : Nat} (hk : k < n) (h : valid (xs k) (ys k) = false) : allValid xs ys n = false := by
  unfold allValid
  rw [List.all_eq_false]
  exact ⟨k, List.mem_range.2 hk, by simp [h]⟩

set_option maxHeartbeats 1000000 in
theorem validPoints_any (xs ys : Nat → Int) (b off n cap : Nat) (w : World) (hn : n ≤ 9223372036854775807) (hc : ∀ k, k < n → w.cell? ⟨b, off + k * 2, none⟩ = some (.int .i64 (xs k)) ∧ w.cell? ⟨b, off + k * 2 + 1, none⟩ = some (.int .i64 (ys k))) :
    Calls Try.prog 72 #[.slice (some ⟨b, off, none⟩) n cap] w fun e w' => e = .returned (.bool (allValid xs ys n)) ∧ Below w.heap.size w w' := by
  go_enter Try.func72, Try.ntmps72
  go_wp2_with fail
  go_loopw [7] (fun i wr => ∃ k : Nat, k ≤ n ∧ i = .int .i64 k ∧ Below w.heap.size w wr ∧ allValid xs ys k = true) (fun i _ => n - (intOf i).toNat)
  case atStart => exact ⟨0, Nat.zero_le _, rfl, Below.refl _ _, rfl⟩
  case round =>
    obtain ⟨k, hk, rfl, hbel, hall⟩ := hrel
    have hx : k < n → wr.cell? ⟨b, off + k * 2, none⟩ = some (.int .i64 (xs k)) := fun h => (hbel.cell (lt_of_cell (hc k h).1)).trans (hc k h).1
    have hy : k < n → wr.cell? ⟨b, off + k * 2 + 1, none⟩ = some (.int .i64 (ys k)) := fun h => (hbel.cell (lt_of_cell (hc k h).2)).trans (hc k h).2
    clear hc
    go_wp2_with (first
      | (go_at_call 20; refine (validPoint_any _ _ _).mono ?_; rintro e w1 ⟨rfl, hb⟩))
    · have hk' : k < n := by assumption
      have hv : (!valid (xs k) (ys k)) = true := by assumption
      go_ret
      refine ⟨?_, keep_below (hbel.alloc hbel.size _) hb⟩
      rw [allValid_false hk' (by simpa using hv)]
      rfl
    · have hk' : k < n := by assumption
      have hv : (!valid (xs k) (ys k)) = false := by assumption
      refine ⟨⟨k + 1, hk', by simp, keep_below (hbel.alloc hbel.size _) hb, ?_⟩, by simp [intOf]; omega⟩
      rw [allValid_succ, hall]
      simpa using hv
    · have hk' : ¬ k < n := by assumption
      go_ret
      refine ⟨?_, hbel⟩
      have : k = n := by omega
      subst this
      rw [hall]
      rfl

end Go.Proofs.Ytpknllbglppjcaa

/- Walks: Turn, Square. -/
namespace Go.Proofs.Ytpknllbglppjcaa
open Go Go.RowKit Go.Proofs

theorem valid_small {x y : Int} (h : valid x y = true) : Small x ∧ Small y := by
  simp only [valid, Bool.and_eq_true, decide_eq_true_eq] at h
  unfold Small
  omega

end Go.Proofs.Ytpknllbglppjcaa

/- Walks: Turn. -/
namespace Go.Proofs.Ytpknllbglppjcaa
open Go Go.RowKit Go.Proofs

def turn (ax ay bx b_y cx cy : Int) : Int := Lib.compareInt (cross ax ay bx b_y cx cy) 0

end Go.Proofs.Ytpknllbglppjcaa

/- Walks: the reference's least functions. -/
namespace Go.Proofs.Ytpknllbglppjcaa
open Go Go.RowKit Go.Proofs

end Go.Proofs.Ytpknllbglppjcaa

/- Walks: the reference's Square and Turn. -/
namespace Go.Proofs.Ytpknllbglppjcaa
open Go Go.RowKit Go.Proofs

theorem pts2a (w : World) (ax ay bx b_y : Int) : let w' := (w.alloc (ptObj ax ay)).alloc (ptObj bx b_y)
    Below w.heap.size w w' ∧ w'.cell? ⟨w.heap.size, 0, none⟩ = some (.int .i64 ax) ∧ w'.cell? ⟨w.heap.size, 1, none⟩ = some (.int .i64 ay) ∧ w'.cell? ⟨w.heap.size + 1, 0, none⟩ = some (.int .i64 bx) ∧ w'.cell? ⟨w.heap.size + 1, 1, none⟩ = some (.int .i64 b_y) := by
  have s1 : ∀ (v : World) (o : Obj), (v.alloc o).heap.size = v.heap.size + 1 := fun v o => by simp
  have n1 := pt_new w ax ay
  have n2 := pt_new (w.alloc (ptObj ax ay)) bx b_y
  simp only [s1] at n2
  exact ⟨((Below.refl _ _).alloc (by simp) _).alloc (by simp) _, pt_old _ _ n1.1, pt_old _ _ n1.2, n2.1, n2.2⟩

end Go.Proofs.Ytpknllbglppjcaa
