/- Walks: compare, least. -/
import Derived.Test.YtpknllbglppjcaaKA
import Derived.Test.YtpknllbglppjcaaGA
import Derived.Test.YtpknllbglppjcaaWB
import Derived.StillTailTactics
namespace Go.Proofs.Ytpknllbglppjcaa
open Go Go.RowKit Go.Proofs

theorem keep_cell2 {w w' : World} {b o : Nat} {v : Value} (hb : Below w.heap.size w w') (h : w.cell? ⟨b, o, none⟩ = some v) : w'.cell? ⟨b, o, none⟩ = some v := keep_cell hb h

def cmpP (px py qx qy : Int) : Int := if Lib.compareInt px qx = 0 then Lib.compareInt py qy else Lib.compareInt px qx

set_option maxHeartbeats 1000000 in
theorem or2_any (x y : Int) (w : World) (b : Nat) (cap : Nat) (h0 : w.cell? ⟨b, 0, none⟩ = some (.int .i64 x)) (h1 : w.cell? ⟨b, 1, none⟩ = some (.int .i64 y)) :
    Calls Try.prog 158 #[.slice (some ⟨b, 0, none⟩) 2 cap] w fun e w' => e = .returned (.int .i64 (if x = 0 then y else x)) ∧ w' = w := by
  obtain ⟨r, hr⟩ : ∃ r, (if x = 0 then y else x) = r := ⟨_, rfl⟩
  rw [hr]
  have R := Lib.hid hr
  clear hr
  go_enter Try.func158, Try.ntmps158
  go_wp2_with fail
  go_loop [8] (fun i => i = .int .i64 0 ∨ (i = .int .i64 1 ∧ x = 0) ∨ (i = .int .i64 2 ∧ x = 0 ∧ y = 0)) (fun i => (2 - intOf i).toNat)
  case atStart => exact .inl rfl
  case round =>
    rcases hrel with rfl | ⟨rfl, hx⟩ | ⟨rfl, hx, hy⟩
    · by_cases hx : x = 0
      · go_wp2
        all_goals first
          | (exfalso; simp_all; done)
          | (go_round
             case rel => exact .inr (.inl ⟨rfl, hx⟩)
             case measure => simp [intOf])
      · go_wp2
        all_goals first
          | (exfalso; simp_all; done)
          | (go_ret; exact ⟨ret_int (by rw [← R.out, if_neg hx]), rfl⟩)
    · have HX := Lib.hid hx
      clear hx
      by_cases hy : y = 0
      · go_wp2
        all_goals first
          | (exfalso; simp_all; done)
          | (go_round
             case rel => exact .inr (.inr ⟨rfl, HX.out, hy⟩)
             case measure => simp [intOf])
      · go_wp2
        all_goals first
          | (exfalso; simp_all; done)
          | (go_ret; exact ⟨ret_int (by rw [← R.out, if_pos HX.out]), rfl⟩)
    · have HX := Lib.hid hx
      have HY := Lib.hid hy
      clear hx hy
      go_wp2
      go_ret
      exact ⟨ret_int (by rw [← R.out, if_pos HX.out, HY.out]), rfl⟩

set_option maxRecDepth 100000 in
set_option maxHeartbeats 1000000 in
theorem compareP_any (px py qx qy : Int) (w : World) :
    Calls Try.prog 139 #[pt px py, pt qx qy] w fun e w' => e = .returned (.int .i64 (cmpP px py qx qy)) ∧ Below w.heap.size w w' := by
  go_enter Try.func139, Try.ntmps139
  go_wp2_with fail
  obtain ⟨b0, c0, c1, c2, c3⟩ := pts2a w px py qx qy
  obtain ⟨W, hW⟩ : ∃ W, (w.alloc (ptObj px py)).alloc (ptObj qx qy) = W := ⟨_, rfl⟩
  simp only [hW] at b0 c0 c1 c2 c3
  change Code.wp _ _ _ _ ((w.alloc (ptObj px py)).alloc (ptObj qx qy))
  rw [hW]
  clear hW
  have d0 : ({ W with drawn := W.drawn + 1 } : World).cell? ⟨w.heap.size, 0, none⟩ = some (.int .i64 px) := c0
  have d1 : ({ W with drawn := W.drawn + 1 } : World).cell? ⟨w.heap.size, 1, none⟩ = some (.int .i64 py) := c1
  have d2 : ({ W with drawn := W.drawn + 1 } : World).cell? ⟨w.heap.size + 1, 0, none⟩ = some (.int .i64 qx) := c2
  have d3 : ({ W with drawn := W.drawn + 1 } : World).cell? ⟨w.heap.size + 1, 1, none⟩ = some (.int .i64 qy) := c3
  go_still_tail 10, (by kernel_rfl)
  still_call (compare_any _ _ _)
  repeat still_step
  still_call (compare_any _ _ _)
  repeat still_step
  refine wpStill_nil ?_
  clear d0 d1 d2 d3 c0 c1 c2 c3
  change wpList _ _ _ _ _ W.drew
  go_wp2_with fail
  have o0 : ((W.alloc (.cells #[.int .i64 (Lib.compareInt px qx), .int .i64 (Lib.compareInt py qy)] 3)).drew).cell? ⟨W.heap.size, 0, none⟩ = some (.int .i64 (Lib.compareInt px qx)) := by go_simp
  have o1 : ((W.alloc (.cells #[.int .i64 (Lib.compareInt px qx), .int .i64 (Lib.compareInt py qy)] 3)).drew).cell? ⟨W.heap.size, 1, none⟩ = some (.int .i64 (Lib.compareInt py qy)) := by go_simp
  have O := or2_any _ _ _ W.heap.size 2 o0 o1
  rw [show (if Lib.compareInt px qx = 0 then Lib.compareInt py qy else Lib.compareInt px qx) = cmpP px py qx qy from rfl] at O
  refine O.mono ?_
  rintro e w2 ⟨rfl, rfl⟩
  clear o0 o1 O
  go_wp2
  go_ret
  exact ⟨rfl, (b0.alloc b0.size _).drew⟩

/-- The number of the least of the first k points. -/
def leastK (xs ys : Nat → Int) : Nat → Nat
  | 0 => 0
  | k + 1 => if cmpP (xs k) (ys k) (xs (leastK xs ys k)) (ys (leastK xs ys k)) < 0 then k else leastK xs ys k

theorem leastK_lt (xs ys : Nat → Int) : ∀ k, 0 < k → leastK xs ys k < k
  | 0, h => by omega
  | 1, _ => by unfold leastK; split <;> simp [leastK]
  | k + 2, _ => by
    have := leastK_lt xs ys (k + 1) (by omega)
    unfold leastK
    split <;> omega

set_option maxRecDepth 100000 in
set_option maxHeartbeats 2000000 in
theorem least_any (b off len cap : Nat) (xs ys : Nat → Int) (hlen : len ≤ 1000000) (hpos : 0 < len) (w : World)
    (hc : ∀ k, k < len → w.cell? ⟨b, off + k * 2, none⟩ = some (.int .i64 (xs k)) ∧ w.cell? ⟨b, off + k * 2 + 1, none⟩ = some (.int .i64 (ys k))) :
    Calls Try.prog 94 #[.slice (some ⟨b, off, none⟩) len cap] w fun e w' => e = .returned (.int .i64 (leastK xs ys len : Nat)) ∧ Below w.heap.size w w' := by
  go_enter Try.func94, Try.ntmps94
  go_wp2_with fail
  go_loopw [3, 8] (fun f i wr => ∃ k : Nat, k ≤ len ∧ i = .int .i64 k ∧ f = .int .i64 (leastK xs ys k : Nat) ∧ Below w.heap.size w wr) (fun _ i _ => len - (intOf i).toNat)
  case atStart => exact ⟨0, Nat.zero_le _, rfl, rfl, Below.refl _ _⟩
  case round =>
    obtain ⟨k, hk, rfl, rfl, hbel⟩ := hrel
    by_cases hlt : k < len
    · have hll : leastK xs ys k < len := by
        rcases Nat.eq_zero_or_pos k with rfl | h
        · exact hpos
        · have := leastK_lt xs ys k h; omega
      obtain ⟨m, hm⟩ : ∃ m, leastK xs ys k = m := ⟨_, rfl⟩
      rw [hm] at hll ⊢
      have e0 := keep_cell2 hbel (hc k hlt).1
      have e1 := keep_cell2 hbel (hc k hlt).2
      have m0 := keep_cell2 hbel (hc m hll).1
      have m1 := keep_cell2 hbel (hc m hll).2
      have i1 : (k : Int) < (len : Int) := by omega
      have i2 : (m : Int) < (len : Int) := by omega
      have HM := Lib.hid hm
      clear hm hc
      go_wp2_with fail
      have n0 := pt_new wr (xs k) (ys k)
      have G0 := grow_cell n0.1
      have G1 := grow_cell n0.2
      have G2 := grow_cell (pt_old wr (ptObj (xs k) (ys k)) m0)
      have G3 := grow_cell (pt_old wr (ptObj (xs k) (ys k)) m1)
      refine wp_region_grow (by kernel_rfl) (by kernel_rfl) ?_
      repeat (go_big_quiet_step ((go_at_call 139; with_reducible exact calls_grow (compareP_any _ _ _ _ _))))
      refine wpQuiet_nil ?_
      rintro w2 ⟨x, hx⟩
      have hb : Below (wr.alloc (ptObj (xs k) (ys k))).heap.size (wr.alloc (ptObj (xs k) (ys k))) w2 := by rw [hx]; exact x.b
      clear hx x G0 G1 G2 G3 n0
      have hbel2 := keep_below (hbel.alloc hbel.size (ptObj (xs k) (ys k))) hb
      clear hb
      obtain ⟨cv, hcv⟩ : ∃ cv, cmpP (xs k) (ys k) (xs m) (ys m) = cv := ⟨_, rfl⟩
      rw [hcv]
      have HC := Lib.hid hcv
      clear hcv
      by_cases hneg : cv < 0
      · go_wp2
        refine ⟨⟨k + 1, hlt, by simp, ?_, hbel2⟩, by simp [intOf]; omega⟩
        unfold leastK
        rw [HM.out, HC.out, if_pos hneg]
      · go_wp2
        refine ⟨⟨k + 1, hlt, by simp, ?_, hbel2⟩, by simp [intOf]; omega⟩
        unfold leastK
        rw [HM.out, HC.out, if_neg hneg]
    · obtain rfl : k = len := by omega
      go_wp2
      go_ret
      exact ⟨rfl, hbel⟩

end Go.Proofs.Ytpknllbglppjcaa
