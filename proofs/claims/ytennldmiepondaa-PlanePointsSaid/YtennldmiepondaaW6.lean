/- Walks: Turn, Square. -/
import Derived.Test.YtennldmiepondaaW5
namespace Go.Proofs.Ytennldmiepondaa
open Go Go.RowKit Go.Proofs

/-- What the slice of some points holds. -/
def ptCells : List (Int × Int) → List Value
  | [] => []
  | p :: ps => .int .i64 p.1 :: .int .i64 p.2 :: ptCells ps

theorem ptCells_get : ∀ (ps : List (Int × Int)) (k : Nat), k < ps.length → (ptCells ps)[k * 2]? = some (.int .i64 (ps.getD k (0, 0)).1) ∧ (ptCells ps)[k * 2 + 1]? = some (.int .i64 (ps.getD k (0, 0)).2)
  | [], _, h => by simp at h
  | p :: ps, 0, _ => by simp [ptCells]
  | p :: ps, k + 1, h => by
    have := ptCells_get ps k (by simpa using h)
    have e1 : (k + 1) * 2 = k * 2 + 2 := by omega
    rw [e1]
    simpa [ptCells] using this

theorem validList_any (ps : List (Int × Int)) (cap : Nat) (w w1 : World) (hn : ps.length ≤ 9223372036854775807) (hw : w1 = w.alloc (.cells ⟨ptCells ps⟩ 23)) :
    Calls Try.prog 72 #[.slice (some ⟨w.heap.size, 0, none⟩) ps.length cap] w1 fun e w' => e = .returned (.bool (ps.all fun p => valid p.1 p.2)) ∧ Below w1.heap.size w1 w' := by
  have hc : ∀ (k : Nat) (v : Value), (ptCells ps)[k]? = some v → w1.cell? ⟨w.heap.size, k, none⟩ = some v := by
    intro k v hv
    subst hw
    have h1 : (w.alloc (.cells ⟨ptCells ps⟩ 23)).heap[w.heap.size]? = some (.cells ⟨ptCells ps⟩ 23) := heap_alloc_new w _
    unfold World.cell?
    rw [h1]
    simpa using hv
  refine Calls.mono (validPoints_any (fun k => (ps.getD k (0, 0)).1) (fun k => (ps.getD k (0, 0)).2) w.heap.size 0 ps.length cap w1 hn (fun k hk => ?_)) ?_
  · obtain ⟨g1, g2⟩ := ptCells_get ps k hk
    rw [Nat.zero_add]
    exact ⟨hc _ _ g1, hc _ _ g2⟩
  · rintro e w' ⟨rfl, hb⟩
    refine ⟨?_, hb⟩
    have : allValid (fun k => (ps.getD k (0, 0)).1) (fun k => (ps.getD k (0, 0)).2) ps.length = ps.all fun p => valid p.1 p.2 := by
      unfold allValid
      rw [Bool.eq_iff_iff, List.all_eq_true, List.all_eq_true]
      constructor
      · intro h p hp
        obtain ⟨i, hi, rfl⟩ := List.mem_iff_getElem.1 hp
        have := h i (List.mem_range.2 hi)
        simpa [List.getD_eq_getElem?_getD, hi] using this
      · intro h i hi
        have hi := List.mem_range.1 hi
        simpa [List.getD_eq_getElem?_getD, hi] using h ps[i] (List.getElem_mem hi)
    rw [this]

theorem valid_small {x y : Int} (h : valid x y = true) : Small x ∧ Small y := by
  simp only [valid, Bool.and_eq_true, decide_eq_true_eq] at h
  unfold Small
  omega

theorem pts2 (w : World) (ax ay bx b_y : Int) (o : Obj) : let w' := ((w.alloc (ptObj ax ay)).alloc (ptObj bx b_y)).alloc o
    Below w.heap.size w w' ∧ w'.cell? ⟨w.heap.size, 0, none⟩ = some (.int .i64 ax) ∧ w'.cell? ⟨w.heap.size, 1, none⟩ = some (.int .i64 ay) ∧ w'.cell? ⟨w.heap.size + 1, 0, none⟩ = some (.int .i64 bx) ∧ w'.cell? ⟨w.heap.size + 1, 1, none⟩ = some (.int .i64 b_y) := by
  have s1 : ∀ (v : World) (o : Obj), (v.alloc o).heap.size = v.heap.size + 1 := fun v o => by simp
  have n1 := pt_new w ax ay
  have n2 := pt_new (w.alloc (ptObj ax ay)) bx b_y
  simp only [s1] at n2
  exact ⟨(((Below.refl _ _).alloc (by simp) _).alloc (by simp) _).alloc (by simp; omega) _, pt_old _ _ (pt_old _ _ n1.1), pt_old _ _ (pt_old _ _ n1.2), pt_old _ _ n2.1, pt_old _ _ n2.2⟩

set_option maxRecDepth 100000 in
set_option maxHeartbeats 1000000 in
theorem squareP_any (ax ay bx b_y : Int) (w : World) :
    Calls Try.prog 22 #[pt ax ay, pt bx b_y] w fun e w' => e = .returned (.tuple #[.int .i64 (if (valid ax ay && valid bx b_y) = true then square ax ay bx b_y else 0), .int .i64 (if (valid ax ay && valid bx b_y) = true then 0 else 1)]) ∧ Below w.heap.size w w' := by
  go_enter Try.func22, Try.ntmps22
  go_wp2_with fail
  have hl := validList_any [(ax, ay), (bx, b_y)] 2 ((w.alloc (ptObj ax ay)).alloc (ptObj bx b_y)) _ (by simp) rfl
  have s1 : ∀ (v : World) (o : Obj), (v.alloc o).heap.size = v.heap.size + 1 := fun v o => by simp
  rw [s1, s1] at hl
  refine Calls.mono hl ?_
  clear hl s1
  rintro e w1 ⟨rfl, hb⟩
  obtain ⟨b0, c0, c1, c2, c3⟩ := pts2 w ax ay bx b_y (.cells ⟨ptCells [(ax, ay), (bx, b_y)]⟩ 23)
  replace c0 := keep_cell hb c0
  replace c1 := keep_cell hb c1
  replace c2 := keep_cell hb c2
  replace c3 := keep_cell hb c3
  replace b0 := keep_below b0 hb
  clear hb
  have hv : ([(ax, ay), (bx, b_y)].all fun p => valid p.1 p.2) = (valid ax ay && valid bx b_y) := by simp
  rw [hv]
  clear hv
  cases h : valid ax ay && valid bx b_y
  · go_wp2
    all_goals first
      | (exfalso; simp_all; done)
      | (go_ret2; exact ⟨rfl, b0⟩)
  · have hh := h
    simp only [Bool.and_eq_true] at hh
    obtain ⟨s1, s2⟩ := valid_small hh.1
    obtain ⟨s3, s4⟩ := valid_small hh.2
    clear hh
    go_wp2_with (first
      | (go_at_call 76; refine (square_any _ _ _ _ _ (by assumption) (by assumption) (by assumption) (by assumption)).mono ?_; rintro e w2 ⟨rfl, hb⟩))
    all_goals first
      | (exfalso; simp_all; done)
      | (go_ret2; exact ⟨rfl, keep_below b0 hb⟩)

end Go.Proofs.Ytennldmiepondaa
