/- The abstract machine, part WB. -/
import Derived.Test.YtiebbbeijlfedaaWA
/- Walks: square. -/
namespace Go.Proofs.Ytiebbbeijlfedaa
open Go Go.RowKit Go.Proofs

def square (ax ay bx b_y : Int) : Int := (bx - ax) * (bx - ax) + (b_y - ay) * (b_y - ay)

theorem square_eq {ax ay bx b_y : Int} (h1 : Small ax) (h2 : Small ay) (h3 : Small bx) (h4 : Small b_y) :
    wrap64 (wrap64 (wrap64 (bx - ax) * wrap64 (bx - ax)) + wrap64 (wrap64 (b_y - ay) * wrap64 (b_y - ay))) = square ax ay bx b_y := by
  unfold Small at *
  have e1 := mul_le (a := bx - ax) (b := bx - ax) (A := 16384) (B := 16384) (by omega) (by omega)
  have e2 := mul_le (a := b_y - ay) (b := b_y - ay) (A := 16384) (B := 16384) (by omega) (by omega)
  rw [w64 (bx - ax) (by omega), w64 (b_y - ay) (by omega), w64 ((bx - ax) * (bx - ax)) (by omega), w64 ((b_y - ay) * (b_y - ay)) (by omega), w64 _ (by omega)]
  rfl

set_option maxHeartbeats 400000 in
theorem square_any (ax ay bx b_y : Int) (w : World) (h1 : Small ax) (h2 : Small ay) (h3 : Small bx) (h4 : Small b_y) :
    Calls Try.prog 108 #[pt ax ay, pt bx b_y] w fun e w' => e = .returned (.int .i64 (square ax ay bx b_y)) ∧ Below w.heap.size w w' := by
  have e1 := square_eq h1 h2 h3 h4
  clear h1 h2 h3 h4
  go_enter Try.func108, Try.ntmps108
  go_wp2
  go_ret
  refine ⟨?_, ((Below.refl _ _).alloc (by simp) _).alloc (by simp) _⟩
  show Ending.returned (Value.int IntKind.i64 (wrap64 _)) = _
  rw [← e1]

def allValid (xs ys : Nat → Int) (n : Nat) : Bool := (List.range n).all fun j => valid (xs j) (ys j)

theorem allValid_succ (xs ys : Nat → Int) (n : Nat) : allValid xs ys (n + 1) = (allValid xs ys n && valid (xs n) (ys n)) := by
  simp [allValid, List.range_succ, List.all_append]

theorem allValid_false {xs ys : Nat → Int} {k n : Nat} (hk : k < n) (h : valid (xs k) (ys k) = false) : allValid xs ys n = false := by
  unfold allValid
  rw [List.all_eq_false]
  exact ⟨k, List.mem_range.2 hk, by simp [h]⟩

set_option maxHeartbeats 1000000 in
theorem validPoints_any (xs ys : Nat → Int) (b off n cap : Nat) (w : World) (hn : n ≤ 9223372036854775807) (hc : ∀ k, k < n → w.cell? ⟨b, off + k * 2, none⟩ = some (.int .i64 (xs k)) ∧ w.cell? ⟨b, off + k * 2 + 1, none⟩ = some (.int .i64 (ys k))) :
    Calls Try.prog 72 #[.slice (some ⟨b, off, none⟩) n cap] w fun e w' => e = .returned (.bool (allValid xs ys n)) ∧ Below w.heap.size w w' := by
  go_enter Try.func72, Try.ntmps72
  go_wp2_with fail
  go_loopw [7] (fun i wr => ∃ k : Nat, k ≤ n ∧ i = .int .i64 k ∧ Below w.heap.size w wr ∧ allValid xs ys k = true) (fun i _ => n - (intOf i).toNat)
  case atStart => exact ⟨0, Nat.zero_le _, rfl, Below.refl _ _, rfl⟩
  case round =>
    obtain ⟨k, hk, rfl, hbel, hall⟩ := hrel
    have hx : k < n → wr.cell? ⟨b, off + k * 2, none⟩ = some (.int .i64 (xs k)) := fun h => (hbel.cell (lt_of_cell (hc k h).1)).trans (hc k h).1
    have hy : k < n → wr.cell? ⟨b, off + k * 2 + 1, none⟩ = some (.int .i64 (ys k)) := fun h => (hbel.cell (lt_of_cell (hc k h).2)).trans (hc k h).2
    clear hc
    go_wp2_with (first
      | (go_at_call 102; refine (validPoint_any _ _ _).mono ?_; rintro e w1 ⟨rfl, hb⟩))
    · have hk' : k < n := by assumption
      have hv : (!valid (xs k) (ys k)) = true := by assumption
      go_ret
      refine ⟨?_, keep_below (hbel.alloc hbel.size _) hb⟩
      rw [allValid_false hk' (by simpa using hv)]
      rfl
    · have hk' : k < n := by assumption
      have hv : (!valid (xs k) (ys k)) = false := by assumption
      refine ⟨⟨k + 1, hk', by simp, keep_below (hbel.alloc hbel.size _) hb, ?_⟩, by simp [intOf]; omega⟩
      rw [allValid_succ, hall]
      simpa using hv
    · have hk' : ¬ k < n := by assumption
      go_ret
      refine ⟨?_, hbel⟩
      have : k = n := by omega
      subst this
      rw [hall]
      rfl

end Go.Proofs.Ytiebbbeijlfedaa

/- Walks: Turn, Square. -/
namespace Go.Proofs.Ytiebbbeijlfedaa
open Go Go.RowKit Go.Proofs

/-- What the slice of some points holds. -/
def ptCells : List (Int × Int) → List Value
  | [] => []
  | p :: ps => .int .i64 p.1 :: .int .i64 p.2 :: ptCells ps

theorem ptCells_get : ∀ (ps : List (Int × Int)) (k : Nat), k < ps.length → (ptCells ps)[k * 2]? = some (.int .i64 (ps.getD k (0, 0)).1) ∧ (ptCells ps)[k * 2 + 1]? = some (.int .i64 (ps.getD k (0, 0)).2)
  | [], _, h => by simp at h
  | p :: ps, 0, _ => by simp [ptCells]
  | p :: ps, k + 1, h => by
    have := ptCells_get ps k (by simpa using h)
    have e1 : (k + 1) * 2 = k * 2 + 2 := by omega
    rw [e1]
    simpa [ptCells] using this

theorem validList_any (ps : List (Int × Int)) (cap : Nat) (w w1 : World) (hn : ps.length ≤ 9223372036854775807) (hw : w1 = w.alloc (.cells ⟨ptCells ps⟩ 65)) :
    Calls Try.prog 72 #[.slice (some ⟨w.heap.size, 0, none⟩) ps.length cap] w1 fun e w' => e = .returned (.bool (ps.all fun p => valid p.1 p.2)) ∧ Below w1.heap.size w1 w' := by
  have hc : ∀ (k : Nat) (v : Value), (ptCells ps)[k]? = some v → w1.cell? ⟨w.heap.size, k, none⟩ = some v := by
    intro k v hv
    subst hw
    have h1 : (w.alloc (.cells ⟨ptCells ps⟩ 65)).heap[w.heap.size]? = some (.cells ⟨ptCells ps⟩ 65) := heap_alloc_new w _
    unfold World.cell?
    rw [h1]
    simpa using hv
  refine Calls.mono (validPoints_any (fun k => (ps.getD k (0, 0)).1) (fun k => (ps.getD k (0, 0)).2) w.heap.size 0 ps.length cap w1 hn (fun k hk => ?_)) ?_
  · obtain ⟨g1, g2⟩ := ptCells_get ps k hk
    rw [Nat.zero_add]
    exact ⟨hc _ _ g1, hc _ _ g2⟩
  · rintro e w' ⟨rfl, hb⟩
    refine ⟨?_, hb⟩
    have : allValid (fun k => (ps.getD k (0, 0)).1) (fun k => (ps.getD k (0, 0)).2) ps.length = ps.all fun p => valid p.1 p.2 := by
      unfold allValid
      rw [Bool.eq_iff_iff, List.all_eq_true, List.all_eq_true]
      constructor
      · intro h p hp
        obtain ⟨i, hi, rfl⟩ := List.mem_iff_getElem.1 hp
        have := h i (List.mem_range.2 hi)
        simpa [List.getD_eq_getElem?_getD, hi] using this
      · intro h i hi
        have hi := List.mem_range.1 hi
        simpa [List.getD_eq_getElem?_getD, hi] using h ps[i] (List.getElem_mem hi)
    rw [this]

theorem valid_small {x y : Int} (h : valid x y = true) : Small x ∧ Small y := by
  simp only [valid, Bool.and_eq_true, decide_eq_true_eq] at h
  unfold Small
  omega

theorem pts2 (w : World) (ax ay bx b_y : Int) (o : Obj) : let w' := ((w.alloc (ptObj ax ay)).alloc (ptObj bx b_y)).alloc o
    Below w.heap.size w w' ∧ w'.cell? ⟨w.heap.size, 0, none⟩ = some (.int .i64 ax) ∧ w'.cell? ⟨w.heap.size, 1, none⟩ = some (.int .i64 ay) ∧ w'.cell? ⟨w.heap.size + 1, 0, none⟩ = some (.int .i64 bx) ∧ w'.cell? ⟨w.heap.size + 1, 1, none⟩ = some (.int .i64 b_y) := by
  have s1 : ∀ (v : World) (o : Obj), (v.alloc o).heap.size = v.heap.size + 1 := fun v o => by simp
  have n1 := pt_new w ax ay
  have n2 := pt_new (w.alloc (ptObj ax ay)) bx b_y
  simp only [s1] at n2
  exact ⟨(((Below.refl _ _).alloc (by simp) _).alloc (by simp) _).alloc (by simp; omega) _, pt_old _ _ (pt_old _ _ n1.1), pt_old _ _ (pt_old _ _ n1.2), pt_old _ _ n2.1, pt_old _ _ n2.2⟩

set_option maxRecDepth 100000 in
set_option maxHeartbeats 1000000 in
theorem squareP_any (ax ay bx b_y : Int) (w : World) :
    Calls Try.prog 80 #[pt ax ay, pt bx b_y] w fun e w' => e = .returned (.tuple #[.int .i64 (if (valid ax ay && valid bx b_y) = true then square ax ay bx b_y else 0), .int .i64 (if (valid ax ay && valid bx b_y) = true then 0 else 1)]) ∧ Below w.heap.size w w' := by
  go_enter Try.func80, Try.ntmps80
  go_wp2_with fail
  have hl := validList_any [(ax, ay), (bx, b_y)] 2 ((w.alloc (ptObj ax ay)).alloc (ptObj bx b_y)) _ (by simp) rfl
  have s1 : ∀ (v : World) (o : Obj), (v.alloc o).heap.size = v.heap.size + 1 := fun v o => by simp
  rw [s1, s1] at hl
  refine Calls.mono hl ?_
  clear hl s1
  rintro e w1 ⟨rfl, hb⟩
  obtain ⟨b0, c0, c1, c2, c3⟩ := pts2 w ax ay bx b_y (.cells ⟨ptCells [(ax, ay), (bx, b_y)]⟩ 65)
  replace c0 := keep_cell hb c0
  replace c1 := keep_cell hb c1
  replace c2 := keep_cell hb c2
  replace c3 := keep_cell hb c3
  replace b0 := keep_below b0 hb
  clear hb
  have hv : ([(ax, ay), (bx, b_y)].all fun p => valid p.1 p.2) = (valid ax ay && valid bx b_y) := by simp
  rw [hv]
  clear hv
  cases h : valid ax ay && valid bx b_y
  · go_wp2
    all_goals first
      | (exfalso; simp_all; done)
      | (go_ret2; exact ⟨rfl, b0⟩)
  · have hh := h
    simp only [Bool.and_eq_true] at hh
    obtain ⟨s1, s2⟩ := valid_small hh.1
    obtain ⟨s3, s4⟩ := valid_small hh.2
    clear hh
    go_wp2_with (first
      | (go_at_call 108; refine (square_any _ _ _ _ _ (by assumption) (by assumption) (by assumption) (by assumption)).mono ?_; rintro e w2 ⟨rfl, hb⟩))
    all_goals first
      | (exfalso; simp_all; done)
      | (go_ret2; exact ⟨rfl, keep_below b0 hb⟩)

end Go.Proofs.Ytiebbbeijlfedaa

/- Walks: Turn. -/
namespace Go.Proofs.Ytiebbbeijlfedaa
open Go Go.RowKit Go.Proofs

theorem pts3o (w : World) (ax ay bx b_y cx cy : Int) (o : Obj) : let w' := (((w.alloc (ptObj ax ay)).alloc (ptObj bx b_y)).alloc (ptObj cx cy)).alloc o
    Below w.heap.size w w' ∧ w'.cell? ⟨w.heap.size, 0, none⟩ = some (.int .i64 ax) ∧ w'.cell? ⟨w.heap.size, 1, none⟩ = some (.int .i64 ay) ∧ w'.cell? ⟨w.heap.size + 1, 0, none⟩ = some (.int .i64 bx) ∧ w'.cell? ⟨w.heap.size + 1, 1, none⟩ = some (.int .i64 b_y) ∧
    w'.cell? ⟨w.heap.size + 1 + 1, 0, none⟩ = some (.int .i64 cx) ∧ w'.cell? ⟨w.heap.size + 1 + 1, 1, none⟩ = some (.int .i64 cy) := by
  obtain ⟨b, c0, c1, c2, c3, c4, c5⟩ := pts3 w ax ay bx b_y cx cy
  exact ⟨b.alloc b.size _, pt_old _ _ c0, pt_old _ _ c1, pt_old _ _ c2, pt_old _ _ c3, pt_old _ _ c4, pt_old _ _ c5⟩

def turn (ax ay bx b_y cx cy : Int) : Int := Lib.compareInt (cross ax ay bx b_y cx cy) 0

end Go.Proofs.Ytiebbbeijlfedaa

/- Walks: the reference's least functions. -/
namespace Go.Proofs.Ytiebbbeijlfedaa
open Go Go.RowKit Go.Proofs

set_option maxHeartbeats 400000 in
theorem refCross_any (ax ay bx b_y cx cy : Int) (w : World) (h1 : Small ax) (h2 : Small ay) (h3 : Small bx) (h4 : Small b_y) (h5 : Small cx) (h6 : Small cy) :
    Calls Try.prog 85 #[pt ax ay, pt bx b_y, pt cx cy] w fun e w' => e = .returned (.int .i64 (cross ax ay bx b_y cx cy)) ∧ Below w.heap.size w w' := by
  have hb := cross_bound h1 h2 h3 h4 h5 h6
  have e1 : wrap64 (wrap64 (wrap64 (bx - ax) * wrap64 (cy - ay)) - wrap64 (wrap64 (b_y - ay) * wrap64 (cx - ax))) = cross ax ay bx b_y cx cy := by
    unfold Small at *
    rw [w64 (bx - ax) (by omega), w64 (cy - ay) (by omega), w64 (b_y - ay) (by omega), w64 (cx - ax) (by omega),
      w64 ((bx - ax) * (cy - ay)) (by omega), w64 ((b_y - ay) * (cx - ax)) (by omega), w64 _ (by omega)]
    rfl
  clear hb h1 h2 h3 h4 h5 h6
  go_enter Try.func85, Try.ntmps85
  go_wp2
  go_ret
  refine ⟨?_, ?_⟩
  · show Ending.returned (Value.int IntKind.i64 (wrap64 _)) = _
    rw [← e1]
  · exact (((Below.refl _ _).alloc (by simp) _).alloc (by simp) _).alloc (by simp; omega) _

set_option maxHeartbeats 400000 in
theorem sign_any (x : Int) (w : World) :
    Calls Try.prog 117 #[.int .i64 x] w fun e w' => e = .returned (.int .i64 (Lib.compareInt x 0)) ∧ w' = w := by
  go_enter Try.func117, Try.ntmps117
  go_wp2
  all_goals (go_ret; refine ⟨?_, rfl⟩; unfold Lib.compareInt; (repeat' split) <;> first | rfl | (exfalso; omega))

theorem dist_eq {ax ay bx b_y : Int} (h1 : Small ax) (h2 : Small ay) (h3 : Small bx) (h4 : Small b_y) :
    wrap64 (wrap64 (wrap64 (ax - bx) * wrap64 (ax - bx)) + wrap64 (wrap64 (ay - b_y) * wrap64 (ay - b_y))) = square ax ay bx b_y := by
  unfold Small at *
  have e1 := mul_le (a := ax - bx) (b := ax - bx) (A := 16384) (B := 16384) (by omega) (by omega)
  have e2 := mul_le (a := ay - b_y) (b := ay - b_y) (A := 16384) (B := 16384) (by omega) (by omega)
  have f1 : (ax - bx) * (ax - bx) = (bx - ax) * (bx - ax) := by
    rw [← Int.neg_mul_neg, Int.neg_sub]
  have f2 : (ay - b_y) * (ay - b_y) = (b_y - ay) * (b_y - ay) := by
    rw [← Int.neg_mul_neg, Int.neg_sub]
  rw [w64 (ax - bx) (by omega), w64 (ay - b_y) (by omega), w64 ((ax - bx) * (ax - bx)) (by omega), w64 ((ay - b_y) * (ay - b_y)) (by omega), w64 _ (by omega), f1, f2]
  rfl

set_option maxHeartbeats 400000 in
theorem dist_any (ax ay bx b_y : Int) (w : World) (h1 : Small ax) (h2 : Small ay) (h3 : Small bx) (h4 : Small b_y) :
    Calls Try.prog 87 #[pt ax ay, pt bx b_y] w fun e w' => e = .returned (.int .i64 (square ax ay bx b_y)) ∧ Below w.heap.size w w' := by
  have e1 := dist_eq h1 h2 h3 h4
  clear h1 h2 h3 h4
  go_enter Try.func87, Try.ntmps87
  go_wp2
  go_ret
  refine ⟨?_, ((Below.refl _ _).alloc (by simp) _).alloc (by simp) _⟩
  show Ending.returned (Value.int IntKind.i64 (wrap64 _)) = _
  rw [← e1]

set_option maxHeartbeats 400000 in
theorem refValid_any (x y : Int) (w : World) :
    Calls Try.prog 109 #[pt x y] w fun e w' => e = .returned (.bool (valid x y)) ∧ Below w.heap.size w w' := by
  obtain ⟨v, hv⟩ : ∃ v, valid x y = v := ⟨_, rfl⟩
  rw [hv]
  go_enter Try.func109, Try.ntmps109
  go_wp2
  all_goals go_ret
  all_goals refine ⟨?_, (Below.refl _ _).alloc (Nat.le_refl _) _⟩
  all_goals rw [← hv]; unfold valid
  all_goals simp [*]
  all_goals (intros; omega)

end Go.Proofs.Ytiebbbeijlfedaa

/- Walks: the reference's Square and Turn. -/
namespace Go.Proofs.Ytiebbbeijlfedaa
open Go Go.RowKit Go.Proofs

theorem pts2a (w : World) (ax ay bx b_y : Int) : let w' := (w.alloc (ptObj ax ay)).alloc (ptObj bx b_y)
    Below w.heap.size w w' ∧ w'.cell? ⟨w.heap.size, 0, none⟩ = some (.int .i64 ax) ∧ w'.cell? ⟨w.heap.size, 1, none⟩ = some (.int .i64 ay) ∧ w'.cell? ⟨w.heap.size + 1, 0, none⟩ = some (.int .i64 bx) ∧ w'.cell? ⟨w.heap.size + 1, 1, none⟩ = some (.int .i64 b_y) := by
  have s1 : ∀ (v : World) (o : Obj), (v.alloc o).heap.size = v.heap.size + 1 := fun v o => by simp
  have n1 := pt_new w ax ay
  have n2 := pt_new (w.alloc (ptObj ax ay)) bx b_y
  simp only [s1] at n2
  exact ⟨((Below.refl _ _).alloc (by simp) _).alloc (by simp) _, pt_old _ _ n1.1, pt_old _ _ n1.2, n2.1, n2.2⟩

theorem pts3a (w : World) (ax ay bx b_y cx cy : Int) : let w' := ((w.alloc (ptObj ax ay)).alloc (ptObj bx b_y)).alloc (ptObj cx cy)
    Below w.heap.size w w' ∧ w'.cell? ⟨w.heap.size, 0, none⟩ = some (.int .i64 ax) ∧ w'.cell? ⟨w.heap.size, 1, none⟩ = some (.int .i64 ay) ∧ w'.cell? ⟨w.heap.size + 1, 0, none⟩ = some (.int .i64 bx) ∧ w'.cell? ⟨w.heap.size + 1, 1, none⟩ = some (.int .i64 b_y) ∧
    w'.cell? ⟨w.heap.size + 1 + 1, 0, none⟩ = some (.int .i64 cx) ∧ w'.cell? ⟨w.heap.size + 1 + 1, 1, none⟩ = some (.int .i64 cy) := pts3 w ax ay bx b_y cx cy

end Go.Proofs.Ytiebbbeijlfedaa
