/- The abstract machine, part WC. -/
import Derived.Test.YtlocdadkhdcedaaWB
/- Walks: the reference's On. -/
namespace Go.Proofs.Ytlocdadkhdcedaa
open Go Go.RowKit Go.Proofs

set_option maxHeartbeats 1000000 in
theorem refOn_any (ax ay bx b_y px py : Int) (w : World) (h1 : Small ax) (h2 : Small ay) (h3 : Small bx) (h4 : Small b_y) (h5 : Small px) (h6 : Small py) :
    Calls Try.prog 131 #[pt ax ay, pt bx b_y, pt px py] w fun e w' => e = .returned (.bool (onSeg px py ax ay bx b_y)) ∧ Below w.heap.size w w' := by
  obtain ⟨v, hv⟩ : ∃ v, onSeg px py ax ay bx b_y = v := ⟨_, rfl⟩
  rw [hv]
  go_enter Try.func131, Try.ntmps131
  go_wp2_with (first
      | (go_at_call 65; refine (refCross_any _ _ _ _ _ _ _ (by assumption) (by assumption) (by assumption) (by assumption) (by assumption) (by assumption)).mono ?_; rintro e w' ⟨rfl, hb⟩
         obtain ⟨b0, c0, c1, c2, c3, c4, c5⟩ := pts3 w ax ay bx b_y px py
         have k0 := keep_cell hb c0
         have k1 := keep_cell hb c1
         have k2 := keep_cell hb c2
         have k3 := keep_cell hb c3
         have k4 := keep_cell hb c4
         have k5 := keep_cell hb c5
         have kb := keep_below b0 hb
         clear c0 c1 c2 c3 c4 c5 b0 hb))
  all_goals go_ret
  all_goals refine ⟨?_, by assumption⟩
  all_goals (subst hv; refine congrArg (fun x => Ending.returned (Value.bool x)) ?_)
  all_goals (show _ = onSeg px py ax ay bx b_y)
  all_goals (unfold onSeg; rw [Bool.eq_iff_iff])
  all_goals simp only [Bool.and_eq_true, decide_eq_true_eq, Bool.false_eq_true, false_iff]
  all_goals omega

end Go.Proofs.Ytlocdadkhdcedaa

/- Walks: isFree. -/
namespace Go.Proofs.Ytlocdadkhdcedaa
open Go Go.RowKit Go.Proofs

def freeOf (dx dy : Int) (xs ys : Nat → Int) (n : Nat) : Bool := (List.range n).all fun j => !decide (0 < dx * xs j + dy * ys j)

theorem freeOf_succ (dx dy : Int) (xs ys : Nat → Int) (n : Nat) : freeOf dx dy xs ys (n + 1) = (freeOf dx dy xs ys n && !decide (0 < dx * xs n + dy * ys n)) := by
  simp [freeOf, List.range_succ, List.all_append]

theorem freeOf_false {dx dy : Int} {xs ys : Nat → Int} {k n : Nat} (hk : k < n) (h : 0 < dx * xs k + dy * ys k) : freeOf dx dy xs ys n = false := by
  unfold freeOf
  rw [List.all_eq_false]
  exact ⟨k, List.mem_range.2 hk, by simp [h]⟩

set_option maxHeartbeats 1000000 in
theorem isFree_any (dx dy : Int) (xs ys : Nat → Int) (b off n cap : Nat) (w : World) (hn : n ≤ 9223372036854775807) (hdx : Small dx) (hdy : Small dy) (hs : ∀ k, k < n → Small (xs k) ∧ Small (ys k))
    (hc : ∀ k, k < n → w.cell? ⟨b, off + k * 2, none⟩ = some (.int .i64 (xs k)) ∧ w.cell? ⟨b, off + k * 2 + 1, none⟩ = some (.int .i64 (ys k))) :
    Calls Try.prog 145 #[pt dx dy, .slice (some ⟨b, off, none⟩) n cap] w fun e w' => e = .returned (.bool (freeOf dx dy xs ys n)) ∧ Below w.heap.size w w' := by
  have hw : ∀ k, k < n → wrap64 (wrap64 (dx * xs k) + wrap64 (dy * ys k)) = dx * xs k + dy * ys k := by
    intro k hk
    have e1 := mul_le hdx (hs k hk).1
    have e2 := mul_le hdy (hs k hk).2
    rw [w64 (dx * xs k) (by omega), w64 (dy * ys k) (by omega), w64 _ (by omega)]
  clear hdx hdy hs
  go_enter Try.func145, Try.ntmps145
  go_wp2_with fail
  have d0 := pt_new w dx dy
  have hb0 : Below w.heap.size w (w.alloc (ptObj dx dy)) := (Below.refl _ _).alloc (Nat.le_refl _) _
  go_loopw [9] (fun i wr => ∃ k : Nat, k ≤ n ∧ i = .int .i64 k ∧ Below w.heap.size w wr ∧ wr.cell? ⟨w.heap.size, 0, none⟩ = some (.int .i64 dx) ∧ wr.cell? ⟨w.heap.size, 1, none⟩ = some (.int .i64 dy) ∧ freeOf dx dy xs ys k = true) (fun i _ => n - (intOf i).toNat)
  case atStart => exact ⟨0, Nat.zero_le _, rfl, hb0, d0.1, d0.2, rfl⟩
  case round =>
    clear d0 hb0
    obtain ⟨k, hk, rfl, hbel, g0, g1, hall⟩ := hrel
    have hx : k < n → wr.cell? ⟨b, off + k * 2, none⟩ = some (.int .i64 (xs k)) := fun h => (hbel.cell (lt_of_cell (hc k h).1)).trans (hc k h).1
    have hy : k < n → wr.cell? ⟨b, off + k * 2 + 1, none⟩ = some (.int .i64 (ys k)) := fun h => (hbel.cell (lt_of_cell (hc k h).2)).trans (hc k h).2
    have hwk : k < n → wrap64 (wrap64 (dx * xs k) + wrap64 (dy * ys k)) = dx * xs k + dy * ys k := hw k
    clear hc hw
    have g2 := lt_of_cell g0
    go_wp2
    · have hk' : k < n := by assumption
      have hv : 0 < dx * xs k + dy * ys k := by assumption
      go_ret
      refine ⟨?_, hbel.alloc hbel.size _⟩
      rw [freeOf_false hk' hv]
      rfl
    · have hk' : k < n := by assumption
      have hv : dx * xs k + dy * ys k ≤ 0 := by assumption
      refine ⟨⟨k + 1, hk', by simp, hbel.alloc hbel.size _, pt_old _ _ g0, pt_old _ _ g1, ?_⟩, by simp [intOf]; omega⟩
      rw [freeOf_succ, hall]
      simp
      omega
    · have hk' : ¬ k < n := by assumption
      go_ret
      refine ⟨?_, hbel⟩
      have : k = n := by omega
      subst this
      rw [hall]
      rfl

end Go.Proofs.Ytlocdadkhdcedaa
