/- Walks: parted. -/
import Derived.Test.YtennldmiepondaaW1
import Derived.Deep.RegionHeld3
namespace Go.Proofs.Ytennldmiepondaa
open Go Go.RowKit Go.Proofs

theorem lt_of_cell {w : World} {b o : Nat} {v : Value} (h : w.cell? ⟨b, o, none⟩ = some v) : b < w.heap.size := World.block_lt_of_cell? w _ h

theorem keep_cell {w w' : World} {b o : Nat} {v : Value} (hb : Below w.heap.size w w') (h : w.cell? ⟨b, o, none⟩ = some v) : w'.cell? ⟨b, o, none⟩ = some v := (hb.cell (lt_of_cell h)).trans h

theorem keep_below {a w w' : World} (h : Below a.heap.size a w) (hb : Below w.heap.size w w') : Below a.heap.size a w' := h.trans (hb.mono h.size)

abbrev ptObj (x y : Int) : Obj := .cells #[.int .i64 x, .int .i64 y] 23

theorem pt_new (w : World) (x y : Int) : (w.alloc (ptObj x y)).cell? ⟨w.heap.size, 0, none⟩ = some (.int .i64 x) ∧ (w.alloc (ptObj x y)).cell? ⟨w.heap.size, 1, none⟩ = some (.int .i64 y) := by
  constructor <;> go_simp

theorem pt_old (w : World) (o : Obj) {b k : Nat} {v : Value} (h : w.cell? ⟨b, k, none⟩ = some v) : (w.alloc o).cell? ⟨b, k, none⟩ = some v :=
  keep_cell ((Below.refl _ _).alloc (Nat.le_refl _) _) h

theorem pts4 (w : World) (ax ay bx b_y cx cy dx dy : Int) : (fun w' => Below w.heap.size w w' ∧ w'.cell? ⟨w.heap.size, 0, none⟩ = some (.int .i64 ax) ∧ w'.cell? ⟨w.heap.size, 1, none⟩ = some (.int .i64 ay) ∧ w'.cell? ⟨w.heap.size + 1, 0, none⟩ = some (.int .i64 bx) ∧ w'.cell? ⟨w.heap.size + 1, 1, none⟩ = some (.int .i64 b_y) ∧ w'.cell? ⟨w.heap.size + 1 + 1, 0, none⟩ = some (.int .i64 cx) ∧ w'.cell? ⟨w.heap.size + 1 + 1, 1, none⟩ = some (.int .i64 cy) ∧ w'.cell? ⟨w.heap.size + 1 + 1 + 1, 0, none⟩ = some (.int .i64 dx) ∧ w'.cell? ⟨w.heap.size + 1 + 1 + 1, 1, none⟩ = some (.int .i64 dy)) ((((w.alloc (ptObj ax ay)).alloc (ptObj bx b_y)).alloc (ptObj cx cy)).alloc (ptObj dx dy)).drew := by
  have s1 : ∀ (v : World) (o : Obj), (v.alloc o).heap.size = v.heap.size + 1 := fun v o => by simp
  have n1 := pt_new w ax ay
  have n2 := pt_new (w.alloc (ptObj ax ay)) bx b_y
  have n3 := pt_new ((w.alloc (ptObj ax ay)).alloc (ptObj bx b_y)) cx cy
  have n4 := pt_new (((w.alloc (ptObj ax ay)).alloc (ptObj bx b_y)).alloc (ptObj cx cy)) dx dy
  simp only [s1] at n2 n3 n4
  have hb : Below w.heap.size w ((((w.alloc (ptObj ax ay)).alloc (ptObj bx b_y)).alloc (ptObj cx cy)).alloc (ptObj dx dy)) :=
    ((((Below.refl _ _).alloc (by simp) _).alloc (by simp) _).alloc (by simp; omega) _).alloc (by simp; omega) _
  exact ⟨hb.drew, pt_old _ _ (pt_old _ _ (pt_old _ _ n1.1)), pt_old _ _ (pt_old _ _ (pt_old _ _ n1.2)), pt_old _ _ (pt_old _ _ n2.1), pt_old _ _ (pt_old _ _ n2.2), pt_old _ _ n3.1, pt_old _ _ n3.2, n4.1, n4.2⟩

set_option maxHeartbeats 1000000 in
theorem parted_any (ax ay bx b_y cx cy dx dy : Int) (w : World) (h1 : Small ax) (h2 : Small ay) (h3 : Small bx) (h4 : Small b_y) (h5 : Small cx) (h6 : Small cy) (h7 : Small dx) (h8 : Small dy) :
    Calls Try.prog 129 #[pt ax ay, pt bx b_y, pt cx cy, pt dx dy] w fun e w' => e = .returned (.bool (parted ax ay bx b_y cx cy dx dy)) ∧ Below w.heap.size w w' := by
  go_enter Try.func129, Try.ntmps129
  go_wp2_with fail
  go_region_held3 (fun w' => Below w.heap.size w w' ∧ w'.cell? ⟨w.heap.size, 0, none⟩ = some (.int .i64 ax) ∧ w'.cell? ⟨w.heap.size, 1, none⟩ = some (.int .i64 ay) ∧ w'.cell? ⟨w.heap.size + 1, 0, none⟩ = some (.int .i64 bx) ∧ w'.cell? ⟨w.heap.size + 1, 1, none⟩ = some (.int .i64 b_y) ∧ w'.cell? ⟨w.heap.size + 1 + 1, 0, none⟩ = some (.int .i64 cx) ∧ w'.cell? ⟨w.heap.size + 1 + 1, 1, none⟩ = some (.int .i64 cy) ∧ w'.cell? ⟨w.heap.size + 1 + 1 + 1, 0, none⟩ = some (.int .i64 dx) ∧ w'.cell? ⟨w.heap.size + 1 + 1 + 1, 1, none⟩ = some (.int .i64 dy))
    (first
      | exact pts4 _ _ _ _ _ _ _ _ _
      | (go_split_ands
         (repeat' apply And.intro) <;> first | assumption | exact keep_below (by assumption) (by assumption) | exact keep_cell (by assumption) (by assumption)))
    (first
      | (go_at_call 74; refine (cross_any _ _ _ _ _ _ _ (by assumption) (by assumption) (by assumption) (by assumption) (by assumption) (by assumption)).mono ?_; rintro e w' ⟨rfl, hb⟩)
      | (go_at_call 73; refine (compare_any _ _ _).mono ?_; rintro e w' ⟨rfl, rfl⟩))
  go_wp2
  go_ret
  refine ⟨?_, by go_split_ands; assumption⟩
  show Ending.returned (Value.bool (decide (IntKind.i64.wrap (Lib.compareInt (cross ax ay bx b_y cx cy) 0 * Lib.compareInt (cross ax ay bx b_y dx dy) 0) < 0))) = _
  rw [wi64]
  · rfl
  · have := mul_le (compareInt_bound (cross ax ay bx b_y cx cy) 0) (compareInt_bound (cross ax ay bx b_y dx dy) 0)
    omega

end Go.Proofs.Ytennldmiepondaa
