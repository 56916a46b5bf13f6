/- Walks: Scan of a journal of one's own; one byte of it stored into. -/
import Derived.Test.YtcgmmfcphfkdhaaGreatB9
namespace Go.Proofs.YtcgmmfcphfkdhaaGreat
open Go Go.RowKit Go.Proofs Go.Torn Go.Abs

set_option maxRecDepth 100000 in
set_option maxHeartbeats 2000000 in
theorem checked_nil (w : World) : Calls Tryz.prog 82 #[.slice none 0 0, .int .i64 2] w fun e w' => e = .returned (.bool false) ∧ Below w.heap.size w w' := by
  go_enter Tryz.func82, Tryz.ntmps82
  go_wp2_with fail
  go_quiet (fail)
  go_wp2
  go_ret
  exact ⟨rfl, below_drewN (Below.refl _ w) _⟩

set_option maxRecDepth 100000 in
set_option maxHeartbeats 4000000 in
theorem scan26_nil (w : World) : Calls Tryz.prog 26 #[.slice none 0 0] w fun e w' => e = .returned (.tuple #[.slice none 0 0, .int .i64 0]) ∧ Below w.heap.size w w' := by
  have HC := Lib.hid (checked_nil)
  go_enter Tryz.func26, Tryz.ntmps26
  go_wp2
  go_step3
  go_wp2
  go_step3
  go_wp2
  go_loopw [4, 5] (fun v s wr => v = .slice none 0 0 ∧ s = .slice none 0 0 ∧ wr = w) (fun _ s _ => lenV s)
  case atStart => exact ⟨rfl, rfl, rfl⟩
  case round =>
    obtain ⟨rfl, rfl, rfl⟩ := hrel
    go_wp2_with fail
    refine (HC.out _).mono ?_
    rintro e w1 ⟨rfl, hb1⟩
    go_wp2
    rw [Exit.noGoto_ret]
    go_ret2
    exact ⟨rfl, hb1⟩

theorem scan_own {base : Nat} {W : World} {d : Value} {L : List Nat} (hown : W.ownsRow base 5 1 d L.length (bc L)) (hN : L.length ≤ 100000) (hy : By L) :
    Calls Tryz.prog 26 #[d] W fun e w' => ∃ v Rs R, e = .returned (.tuple #[v, .int .i64 ((L.length - R.length : Nat) : Int)]) ∧ RowsB w' W.heap.size v Rs ∧ Below W.heap.size W w' ∧ R.length ≤ L.length ∧ (∀ n, scan 8192 (Rs.length + n) L = (Rs, R)) := by
  rcases _root_.id hown.2 with ⟨rfl, h0⟩ | ⟨g, cap, cur, rfl, -, -, h1, h2, -⟩
  · have : L = [] := List.eq_nil_of_length_eq_zero h0
    subst this
    refine (scan26_nil W).mono ?_
    rintro e w1 ⟨rfl, hb⟩
    exact ⟨_, [], [], rfl, ⟨[], World.ownsRow_nil _ _ _ _, fun k hk => by simp at hk⟩, hb, Nat.le_refl _, fun n => scan_nil _ _⟩
  · refine scan26_any g 0 cap L hN h1 (by unfold maxLen at h2; omega) hy W (fun k hk => ?_)
    rw [Nat.zero_add, hown.cellAt k (by omega)]
    simp [bc, List.getD, hk]

theorem bc_set (L : List Nat) (p y : Nat) : bc (L.set p y) = (bc L).set p (.int .u8 ((y : Nat) : Int)) := by
  unfold bc
  rw [List.map_set]

theorem own_set {base g cap : Nat} {W : World} {L : List Nat} {p y : Nat} (hown : W.ownsRow base 5 1 (.slice (some ⟨g, 0, none⟩) L.length cap) L.length (bc L)) (hp : p < L.length) :
    (W.setCell ⟨g, p, none⟩ (.int .u8 ((y : Nat) : Int))).ownsRow base 5 1 (.slice (some ⟨g, 0, none⟩) (L.set p y).length cap) (L.set p y).length (bc (L.set p y)) := by
  refine ⟨by rw [bc_len]; omega, .inr ?_⟩
  rcases hown.2 with ⟨h, h0⟩ | ⟨g', cap', cur, he, hb, hg, h1, h2, h3, h4⟩
  · cases h
  · simp only [Value.slice.injEq, Option.some.injEq, Addr.mk.injEq, and_true, true_and] at he
    obtain ⟨rfl, rfl⟩ := he
    refine ⟨g, cap, cur.setIfInBounds p (.int .u8 ((y : Nat) : Int)), rfl, hb, ?_, by rw [List.length_set]; exact h1, h2, by simpa using h3, ?_⟩
    · unfold World.setCell
      rw [Array.getElem?_modify, if_pos rfl, hg]
      rfl
    · rw [List.length_set, Array.toList_setIfInBounds, List.take_set, h4, bc_set]

end Go.Proofs.YtcgmmfcphfkdhaaGreat
