/- The abstract machine, part GrLF. -/
import Derived.Test.YtkmcboincjohlaaGreatGrLA
import Derived.Test.YtkmcboincjohlaaGreatGrLE
import Derived.StillTailTactics
/- Walks: square. -/
namespace Go.Proofs.YtkmcboincjohlaaGreat
open Go Go.RowKit Go.Proofs

def square (ax ay bx b_y : Int) : Int := (bx - ax) * (bx - ax) + (b_y - ay) * (b_y - ay)

theorem square_eq {ax ay bx b_y : Int} (h1 : Small ax) (h2 : Small ay) (h3 : Small bx) (h4 : Small b_y) :
    wrap64 (wrap64 (wrap64 (bx - ax) * wrap64 (bx - ax)) + wrap64 (wrap64 (b_y - ay) * wrap64 (b_y - ay))) = square ax ay bx b_y := by
  unfold Small at *
  have e1 := mul_le (a := bx - ax) (b := bx - ax) (A := 16384) (B := 16384) (by omega) (by omega)
  have e2 := mul_le (a := b_y - ay) (b := b_y - ay) (A := 16384) (B := 16384) (by omega) (by omega)
  rw [w64 (bx - ax) (by omega), w64 (b_y - ay) (by omega), w64 ((bx - ax) * (bx - ax)) (by omega), w64 ((b_y - ay) * (b_y - ay)) (by omega), w64 _ (by omega)]
  rfl

set_option maxHeartbeats 400000 in
theorem square_any (ax ay bx b_y : Int) (w : World) (h1 : Small ax) (h2 : Small ay) (h3 : Small bx) (h4 : Small b_y) :
    Calls Tryz.prog 63 #[pt ax ay, pt bx b_y] w fun e w' => e = .returned (.int .i64 (square ax ay bx b_y)) ∧ Below w.heap.size w w' := by
  have e1 := square_eq h1 h2 h3 h4
  clear h1 h2 h3 h4
  go_enter Tryz.func63, Tryz.ntmps63
  go_wp2
  go_ret
  refine ⟨?_, ((Below.refl _ _).alloc (by simp) _).alloc (by simp) _⟩
  show Ending.returned (Value.int IntKind.i64 (wrap64 _)) = _
  rw [← e1]

def allValid (xs ys : Nat → Int) (n : Nat) : Bool := (List.range n).all fun j => valid (xs j) (ys j)

theorem allValid_succ (xs ys : Nat → Int) (n : Nat) : allValid xs ys (n + 1) = (allValid xs ys n && valid (xs n) (ys n)) := by
  simp [allValid, List.range_succ, List.all_append]

theorem allValid_false {xs ys : Nat → Int} {k n : Nat} (hk : k < n) (h : valid (xs k) (ys k) = false) : allValid xs ys n = false := by
  unfold allValid
  rw [List.all_eq_false]
  exact ⟨k, List.mem_range.2 hk, by simp [h]⟩

set_option maxHeartbeats 1000000 in
theorem validPoints_any (xs ys : Nat → Int) (b off n cap : Nat) (w : World) (hn : n ≤ 9223372036854775807) (hc : ∀ k, k < n → w.cell? ⟨b, off + k * 2, none⟩ = some (.int .i64 (xs k)) ∧ w.cell? ⟨b, off + k * 2 + 1, none⟩ = some (.int .i64 (ys k))) :
    Calls Tryz.prog 44 #[.slice (some ⟨b, off, none⟩) n cap] w fun e w' => e = .returned (.bool (allValid xs ys n)) ∧ Below w.heap.size w w' := by
  go_enter Tryz.func44, Tryz.ntmps44
  go_wp2_with fail
  go_loopw [7] (fun i wr => ∃ k : Nat, k ≤ n ∧ i = .int .i64 k ∧ Below w.heap.size w wr ∧ allValid xs ys k = true) (fun i _ => n - (intOf i).toNat)
  case atStart => exact ⟨0, Nat.zero_le _, rfl, Below.refl _ _, rfl⟩
  case round =>
    obtain ⟨k, hk, rfl, hbel, hall⟩ := hrel
    have hx : k < n → wr.cell? ⟨b, off + k * 2, none⟩ = some (.int .i64 (xs k)) := fun h => (hbel.cell (lt_of_cell (hc k h).1)).trans (hc k h).1
    have hy : k < n → wr.cell? ⟨b, off + k * 2 + 1, none⟩ = some (.int .i64 (ys k)) := fun h => (hbel.cell (lt_of_cell (hc k h).2)).trans (hc k h).2
    clear hc
    go_wp2_with (first
      | (go_at_call 87; refine (validPoint_any _ _ _).mono ?_; rintro e w1 ⟨rfl, hb⟩))
    · have hk' : k < n := by assumption
      have hv : (!valid (xs k) (ys k)) = true := by assumption
      go_ret
      refine ⟨?_, keep_below (hbel.alloc hbel.size _) hb⟩
      rw [allValid_false hk' (by simpa using hv)]
      rfl
    · have hk' : k < n := by assumption
      have hv : (!valid (xs k) (ys k)) = false := by assumption
      refine ⟨⟨k + 1, hk', by simp, keep_below (hbel.alloc hbel.size _) hb, ?_⟩, by simp [intOf]; omega⟩
      rw [allValid_succ, hall]
      simpa using hv
    · have hk' : ¬ k < n := by assumption
      go_ret
      refine ⟨?_, hbel⟩
      have : k = n := by omega
      subst this
      rw [hall]
      rfl

end Go.Proofs.YtkmcboincjohlaaGreat

/- Walks: Turn, Square. -/
namespace Go.Proofs.YtkmcboincjohlaaGreat
open Go Go.RowKit Go.Proofs

/-- What the slice of some points holds. -/
def ptCells : List (Int × Int) → List Value
  | [] => []
  | p :: ps => .int .i64 p.1 :: .int .i64 p.2 :: ptCells ps

theorem ptCells_get : ∀ (ps : List (Int × Int)) (k : Nat), k < ps.length → (ptCells ps)[k * 2]? = some (.int .i64 (ps.getD k (0, 0)).1) ∧ (ptCells ps)[k * 2 + 1]? = some (.int .i64 (ps.getD k (0, 0)).2)
  | [], _, h => by simp at h
  | p :: ps, 0, _ => by simp [ptCells]
  | p :: ps, k + 1, h => by
    have := ptCells_get ps k (by simpa using h)
    have e1 : (k + 1) * 2 = k * 2 + 2 := by omega
    rw [e1]
    simpa [ptCells] using this

theorem validList_any (ps : List (Int × Int)) (cap : Nat) (w w1 : World) (hn : ps.length ≤ 9223372036854775807) (hw : w1 = w.alloc (.cells ⟨ptCells ps⟩ 96)) :
    Calls Tryz.prog 44 #[.slice (some ⟨w.heap.size, 0, none⟩) ps.length cap] w1 fun e w' => e = .returned (.bool (ps.all fun p => valid p.1 p.2)) ∧ Below w1.heap.size w1 w' := by
  have hc : ∀ (k : Nat) (v : Value), (ptCells ps)[k]? = some v → w1.cell? ⟨w.heap.size, k, none⟩ = some v := by
    intro k v hv
    subst hw
    have h1 : (w.alloc (.cells ⟨ptCells ps⟩ 96)).heap[w.heap.size]? = some (.cells ⟨ptCells ps⟩ 96) := heap_alloc_new w _
    unfold World.cell?
    rw [h1]
    simpa using hv
  refine Calls.mono (validPoints_any (fun k => (ps.getD k (0, 0)).1) (fun k => (ps.getD k (0, 0)).2) w.heap.size 0 ps.length cap w1 hn (fun k hk => ?_)) ?_
  · obtain ⟨g1, g2⟩ := ptCells_get ps k hk
    rw [Nat.zero_add]
    exact ⟨hc _ _ g1, hc _ _ g2⟩
  · rintro e w' ⟨rfl, hb⟩
    refine ⟨?_, hb⟩
    have : allValid (fun k => (ps.getD k (0, 0)).1) (fun k => (ps.getD k (0, 0)).2) ps.length = ps.all fun p => valid p.1 p.2 := by
      unfold allValid
      rw [Bool.eq_iff_iff, List.all_eq_true, List.all_eq_true]
      constructor
      · intro h p hp
        obtain ⟨i, hi, rfl⟩ := List.mem_iff_getElem.1 hp
        have := h i (List.mem_range.2 hi)
        simpa [List.getD_eq_getElem?_getD, hi] using this
      · intro h i hi
        have hi := List.mem_range.1 hi
        simpa [List.getD_eq_getElem?_getD, hi] using h ps[i] (List.getElem_mem hi)
    rw [this]

theorem valid_small {x y : Int} (h : valid x y = true) : Small x ∧ Small y := by
  simp only [valid, Bool.and_eq_true, decide_eq_true_eq] at h
  unfold Small
  omega

theorem pts2 (w : World) (ax ay bx b_y : Int) (o : Obj) : let w' := ((w.alloc (ptObj ax ay)).alloc (ptObj bx b_y)).alloc o
    Below w.heap.size w w' ∧ w'.cell? ⟨w.heap.size, 0, none⟩ = some (.int .i64 ax) ∧ w'.cell? ⟨w.heap.size, 1, none⟩ = some (.int .i64 ay) ∧ w'.cell? ⟨w.heap.size + 1, 0, none⟩ = some (.int .i64 bx) ∧ w'.cell? ⟨w.heap.size + 1, 1, none⟩ = some (.int .i64 b_y) := by
  have s1 : ∀ (v : World) (o : Obj), (v.alloc o).heap.size = v.heap.size + 1 := fun v o => by simp
  have n1 := pt_new w ax ay
  have n2 := pt_new (w.alloc (ptObj ax ay)) bx b_y
  simp only [s1] at n2
  exact ⟨(((Below.refl _ _).alloc (by simp) _).alloc (by simp) _).alloc (by simp; omega) _, pt_old _ _ (pt_old _ _ n1.1), pt_old _ _ (pt_old _ _ n1.2), pt_old _ _ n2.1, pt_old _ _ n2.2⟩

set_option maxRecDepth 100000 in
set_option maxHeartbeats 1000000 in
theorem squareP_any (ax ay bx b_y : Int) (w : World) :
    Calls Tryz.prog 52 #[pt ax ay, pt bx b_y] w fun e w' => e = .returned (.tuple #[.int .i64 (if (valid ax ay && valid bx b_y) = true then square ax ay bx b_y else 0), .int .i64 (if (valid ax ay && valid bx b_y) = true then 0 else 1)]) ∧ Below w.heap.size w w' := by
  go_enter Tryz.func52, Tryz.ntmps52
  go_wp2_with fail
  have hl := validList_any [(ax, ay), (bx, b_y)] 2 ((w.alloc (ptObj ax ay)).alloc (ptObj bx b_y)) _ (by simp) rfl
  have s1 : ∀ (v : World) (o : Obj), (v.alloc o).heap.size = v.heap.size + 1 := fun v o => by simp
  rw [s1, s1] at hl
  refine Calls.mono hl ?_
  clear hl s1
  rintro e w1 ⟨rfl, hb⟩
  obtain ⟨b0, c0, c1, c2, c3⟩ := pts2 w ax ay bx b_y (.cells ⟨ptCells [(ax, ay), (bx, b_y)]⟩ 96)
  replace c0 := keep_cell hb c0
  replace c1 := keep_cell hb c1
  replace c2 := keep_cell hb c2
  replace c3 := keep_cell hb c3
  replace b0 := keep_below b0 hb
  clear hb
  have hv : ([(ax, ay), (bx, b_y)].all fun p => valid p.1 p.2) = (valid ax ay && valid bx b_y) := by simp
  rw [hv]
  clear hv
  cases h : valid ax ay && valid bx b_y
  · go_wp2
    all_goals first
      | (exfalso; simp_all; done)
      | (go_ret2; exact ⟨rfl, b0⟩)
  · have hh := h
    simp only [Bool.and_eq_true] at hh
    obtain ⟨s1, s2⟩ := valid_small hh.1
    obtain ⟨s3, s4⟩ := valid_small hh.2
    clear hh
    go_wp2_with (first
      | (go_at_call 63; refine (square_any _ _ _ _ _ (by assumption) (by assumption) (by assumption) (by assumption)).mono ?_; rintro e w2 ⟨rfl, hb⟩))
    all_goals first
      | (exfalso; simp_all; done)
      | (go_ret2; exact ⟨rfl, keep_below b0 hb⟩)

end Go.Proofs.YtkmcboincjohlaaGreat

/- Walks: Turn. -/
namespace Go.Proofs.YtkmcboincjohlaaGreat
open Go Go.RowKit Go.Proofs

theorem pts3o (w : World) (ax ay bx b_y cx cy : Int) (o : Obj) : let w' := (((w.alloc (ptObj ax ay)).alloc (ptObj bx b_y)).alloc (ptObj cx cy)).alloc o
    Below w.heap.size w w' ∧ w'.cell? ⟨w.heap.size, 0, none⟩ = some (.int .i64 ax) ∧ w'.cell? ⟨w.heap.size, 1, none⟩ = some (.int .i64 ay) ∧ w'.cell? ⟨w.heap.size + 1, 0, none⟩ = some (.int .i64 bx) ∧ w'.cell? ⟨w.heap.size + 1, 1, none⟩ = some (.int .i64 b_y) ∧
    w'.cell? ⟨w.heap.size + 1 + 1, 0, none⟩ = some (.int .i64 cx) ∧ w'.cell? ⟨w.heap.size + 1 + 1, 1, none⟩ = some (.int .i64 cy) := by
  obtain ⟨b, c0, c1, c2, c3, c4, c5⟩ := pts3 w ax ay bx b_y cx cy
  exact ⟨b.alloc b.size _, pt_old _ _ c0, pt_old _ _ c1, pt_old _ _ c2, pt_old _ _ c3, pt_old _ _ c4, pt_old _ _ c5⟩

def turn (ax ay bx b_y cx cy : Int) : Int := Lib.compareInt (cross ax ay bx b_y cx cy) 0

end Go.Proofs.YtkmcboincjohlaaGreat

/- Walks: the reference's least functions. -/
namespace Go.Proofs.YtkmcboincjohlaaGreat
open Go Go.RowKit Go.Proofs

end Go.Proofs.YtkmcboincjohlaaGreat

/- Walks: the reference's Square and Turn. -/
namespace Go.Proofs.YtkmcboincjohlaaGreat
open Go Go.RowKit Go.Proofs

theorem pts2a (w : World) (ax ay bx b_y : Int) : let w' := (w.alloc (ptObj ax ay)).alloc (ptObj bx b_y)
    Below w.heap.size w w' ∧ w'.cell? ⟨w.heap.size, 0, none⟩ = some (.int .i64 ax) ∧ w'.cell? ⟨w.heap.size, 1, none⟩ = some (.int .i64 ay) ∧ w'.cell? ⟨w.heap.size + 1, 0, none⟩ = some (.int .i64 bx) ∧ w'.cell? ⟨w.heap.size + 1, 1, none⟩ = some (.int .i64 b_y) := by
  have s1 : ∀ (v : World) (o : Obj), (v.alloc o).heap.size = v.heap.size + 1 := fun v o => by simp
  have n1 := pt_new w ax ay
  have n2 := pt_new (w.alloc (ptObj ax ay)) bx b_y
  simp only [s1] at n2
  exact ⟨((Below.refl _ _).alloc (by simp) _).alloc (by simp) _, pt_old _ _ n1.1, pt_old _ _ n1.2, n2.1, n2.2⟩

end Go.Proofs.YtkmcboincjohlaaGreat

/- Walks: compare, least. -/
namespace Go.Proofs.YtkmcboincjohlaaGreat
open Go Go.RowKit Go.Proofs

theorem keep_cell2 {w w' : World} {b o : Nat} {v : Value} (hb : Below w.heap.size w w') (h : w.cell? ⟨b, o, none⟩ = some v) : w'.cell? ⟨b, o, none⟩ = some v := keep_cell hb h

def cmpP (px py qx qy : Int) : Int := if Lib.compareInt px qx = 0 then Lib.compareInt py qy else Lib.compareInt px qx

set_option maxHeartbeats 1000000 in
theorem or2_any (x y : Int) (w : World) (b : Nat) (cap : Nat) (h0 : w.cell? ⟨b, 0, none⟩ = some (.int .i64 x)) (h1 : w.cell? ⟨b, 1, none⟩ = some (.int .i64 y)) :
    Calls Tryz.prog 84 #[.slice (some ⟨b, 0, none⟩) 2 cap] w fun e w' => e = .returned (.int .i64 (if x = 0 then y else x)) ∧ w' = w := by
  obtain ⟨r, hr⟩ : ∃ r, (if x = 0 then y else x) = r := ⟨_, rfl⟩
  rw [hr]
  have R := Lib.hid hr
  clear hr
  go_enter Tryz.func84, Tryz.ntmps84
  go_wp2_with fail
  go_loop [8] (fun i => i = .int .i64 0 ∨ (i = .int .i64 1 ∧ x = 0) ∨ (i = .int .i64 2 ∧ x = 0 ∧ y = 0)) (fun i => (2 - intOf i).toNat)
  case atStart => exact .inl rfl
  case round =>
    rcases hrel with rfl | ⟨rfl, hx⟩ | ⟨rfl, hx, hy⟩
    · by_cases hx : x = 0
      · go_wp2
        all_goals first
          | (exfalso; simp_all; done)
          | (go_round
             case rel => exact .inr (.inl ⟨rfl, hx⟩)
             case measure => simp [intOf])
      · go_wp2
        all_goals first
          | (exfalso; simp_all; done)
          | (go_ret; exact ⟨ret_intP (by rw [← R.out, if_neg hx]), rfl⟩)
    · have HX := Lib.hid hx
      clear hx
      by_cases hy : y = 0
      · go_wp2
        all_goals first
          | (exfalso; simp_all; done)
          | (go_round
             case rel => exact .inr (.inr ⟨rfl, HX.out, hy⟩)
             case measure => simp [intOf])
      · go_wp2
        all_goals first
          | (exfalso; simp_all; done)
          | (go_ret; exact ⟨ret_intP (by rw [← R.out, if_pos HX.out]), rfl⟩)
    · have HX := Lib.hid hx
      have HY := Lib.hid hy
      clear hx hy
      go_wp2
      go_ret
      exact ⟨ret_intP (by rw [← R.out, if_pos HX.out, HY.out]), rfl⟩

set_option maxRecDepth 100000 in
set_option maxHeartbeats 1000000 in
theorem compareP_any (px py qx qy : Int) (w : World) :
    Calls Tryz.prog 90 #[pt px py, pt qx qy] w fun e w' => e = .returned (.int .i64 (cmpP px py qx qy)) ∧ Below w.heap.size w w' := by
  go_enter Tryz.func90, Tryz.ntmps90
  go_wp2_with fail
  obtain ⟨b0, c0, c1, c2, c3⟩ := pts2a w px py qx qy
  obtain ⟨W, hW⟩ : ∃ W, (w.alloc (ptObj px py)).alloc (ptObj qx qy) = W := ⟨_, rfl⟩
  simp only [hW] at b0 c0 c1 c2 c3
  change Code.wp _ _ _ _ ((w.alloc (ptObj px py)).alloc (ptObj qx qy))
  rw [hW]
  clear hW
  have d0 : ({ W with drawn := W.drawn + 1 } : World).cell? ⟨w.heap.size, 0, none⟩ = some (.int .i64 px) := c0
  have d1 : ({ W with drawn := W.drawn + 1 } : World).cell? ⟨w.heap.size, 1, none⟩ = some (.int .i64 py) := c1
  have d2 : ({ W with drawn := W.drawn + 1 } : World).cell? ⟨w.heap.size + 1, 0, none⟩ = some (.int .i64 qx) := c2
  have d3 : ({ W with drawn := W.drawn + 1 } : World).cell? ⟨w.heap.size + 1, 1, none⟩ = some (.int .i64 qy) := c3
  go_still_tail 10, (by kernel_rfl)
  still_call (compare_any _ _ _)
  repeat still_step
  still_call (compare_any _ _ _)
  repeat still_step
  refine wpStill_nil ?_
  clear d0 d1 d2 d3 c0 c1 c2 c3
  change wpList _ _ _ _ _ W.drew
  go_wp2_with fail
  have o0 : ((W.alloc (.cells #[.int .i64 (Lib.compareInt px qx), .int .i64 (Lib.compareInt py qy)] 3)).drew).cell? ⟨W.heap.size, 0, none⟩ = some (.int .i64 (Lib.compareInt px qx)) := by go_simp
  have o1 : ((W.alloc (.cells #[.int .i64 (Lib.compareInt px qx), .int .i64 (Lib.compareInt py qy)] 3)).drew).cell? ⟨W.heap.size, 1, none⟩ = some (.int .i64 (Lib.compareInt py qy)) := by go_simp
  have O := or2_any _ _ _ W.heap.size 2 o0 o1
  rw [show (if Lib.compareInt px qx = 0 then Lib.compareInt py qy else Lib.compareInt px qx) = cmpP px py qx qy from rfl] at O
  refine O.mono ?_
  rintro e w2 ⟨rfl, rfl⟩
  clear o0 o1 O
  go_wp2
  go_ret
  exact ⟨rfl, (b0.alloc b0.size _).drew⟩

/-- The number of the least of the first k points. -/
def leastK (xs ys : Nat → Int) : Nat → Nat
  | 0 => 0
  | k + 1 => if cmpP (xs k) (ys k) (xs (leastK xs ys k)) (ys (leastK xs ys k)) < 0 then k else leastK xs ys k

theorem leastK_lt (xs ys : Nat → Int) : ∀ k, 0 < k → leastK xs ys k < k
  | 0, h => by omega
  | 1, _ => by unfold leastK; split <;> simp [leastK]
  | k + 2, _ => by
    have := leastK_lt xs ys (k + 1) (by omega)
    unfold leastK
    split <;> omega

set_option maxRecDepth 100000 in
set_option maxHeartbeats 2000000 in
theorem least_any (b off len cap : Nat) (xs ys : Nat → Int) (hlen : len ≤ 1000000) (hpos : 0 < len) (w : World)
    (hc : ∀ k, k < len → w.cell? ⟨b, off + k * 2, none⟩ = some (.int .i64 (xs k)) ∧ w.cell? ⟨b, off + k * 2 + 1, none⟩ = some (.int .i64 (ys k))) :
    Calls Tryz.prog 48 #[.slice (some ⟨b, off, none⟩) len cap] w fun e w' => e = .returned (.int .i64 (leastK xs ys len : Nat)) ∧ Below w.heap.size w w' := by
  go_enter Tryz.func48, Tryz.ntmps48
  go_wp2_with fail
  go_loopw [3, 8] (fun f i wr => ∃ k : Nat, k ≤ len ∧ i = .int .i64 k ∧ f = .int .i64 (leastK xs ys k : Nat) ∧ Below w.heap.size w wr) (fun _ i _ => len - (intOf i).toNat)
  case atStart => exact ⟨0, Nat.zero_le _, rfl, rfl, Below.refl _ _⟩
  case round =>
    obtain ⟨k, hk, rfl, rfl, hbel⟩ := hrel
    by_cases hlt : k < len
    · have hll : leastK xs ys k < len := by
        rcases Nat.eq_zero_or_pos k with rfl | h
        · exact hpos
        · have := leastK_lt xs ys k h; omega
      obtain ⟨m, hm⟩ : ∃ m, leastK xs ys k = m := ⟨_, rfl⟩
      rw [hm] at hll ⊢
      have e0 := keep_cell2 hbel (hc k hlt).1
      have e1 := keep_cell2 hbel (hc k hlt).2
      have m0 := keep_cell2 hbel (hc m hll).1
      have m1 := keep_cell2 hbel (hc m hll).2
      have i1 : (k : Int) < (len : Int) := by omega
      have i2 : (m : Int) < (len : Int) := by omega
      have HM := Lib.hid hm
      clear hm hc
      go_wp2_with fail
      have n0 := pt_new wr (xs k) (ys k)
      have G0 := grow_cell n0.1
      have G1 := grow_cell n0.2
      have G2 := grow_cell (pt_old wr (ptObj (xs k) (ys k)) m0)
      have G3 := grow_cell (pt_old wr (ptObj (xs k) (ys k)) m1)
      refine wp_region_grow (by kernel_rfl) (by kernel_rfl) ?_
      repeat (go_big_quiet_step ((go_at_call 90; with_reducible exact calls_grow (compareP_any _ _ _ _ _))))
      refine wpQuiet_nil ?_
      rintro w2 ⟨x, hx⟩
      have hb : Below (wr.alloc (ptObj (xs k) (ys k))).heap.size (wr.alloc (ptObj (xs k) (ys k))) w2 := by rw [hx]; exact x.b
      clear hx x G0 G1 G2 G3 n0
      have hbel2 := keep_below (hbel.alloc hbel.size (ptObj (xs k) (ys k))) hb
      clear hb
      obtain ⟨cv, hcv⟩ : ∃ cv, cmpP (xs k) (ys k) (xs m) (ys m) = cv := ⟨_, rfl⟩
      rw [hcv]
      have HC := Lib.hid hcv
      clear hcv
      by_cases hneg : cv < 0
      · go_wp2
        refine ⟨⟨k + 1, hlt, by simp, ?_, hbel2⟩, by simp [intOf]; omega⟩
        unfold leastK
        rw [HM.out, HC.out, if_pos hneg]
      · go_wp2
        refine ⟨⟨k + 1, hlt, by simp, ?_, hbel2⟩, by simp [intOf]; omega⟩
        unfold leastK
        rw [HM.out, HC.out, if_neg hneg]
    · obtain rfl : k = len := by omega
      go_wp2
      go_ret
      exact ⟨rfl, hbel⟩

end Go.Proofs.YtkmcboincjohlaaGreat
