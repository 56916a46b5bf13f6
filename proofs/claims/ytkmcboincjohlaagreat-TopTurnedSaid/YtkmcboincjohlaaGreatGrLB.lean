/- The abstract machine, part GrLB. -/
import Derived.Test.YtkmcboincjohlaaGreatGrLA
import Derived.Deep.Cut
/- Walks: marks compared. -/
namespace Go.Proofs.YtkmcboincjohlaaGreat
open Go Go.RowKit Go.Proofs

abbrev mk (x y z : Int) : Value := .agg #[.int .i64 x, .int .i64 y, .int .i64 z]
abbrev mkObj (x y z : Int) : Obj := .cells #[.int .i64 x, .int .i64 y, .int .i64 z] 59

/-- A mark lies in a block of its own. -/
def Mk (w : World) (b : Nat) (x y z : Int) : Prop := w.heap[b]? = some (.cells #[.int .i64 x, .int .i64 y, .int .i64 z] 59 (0, 0))
theorem Mk.c0 {w : World} {b : Nat} {x y z : Int} (h : Mk w b x y z) : w.cell? ⟨b, 0, none⟩ = some (.int .i64 x) := cell_of h rfl
theorem Mk.c1 {w : World} {b : Nat} {x y z : Int} (h : Mk w b x y z) : w.cell? ⟨b, 1, none⟩ = some (.int .i64 y) := cell_of h rfl
theorem Mk.c2 {w : World} {b : Nat} {x y z : Int} (h : Mk w b x y z) : w.cell? ⟨b, 2, none⟩ = some (.int .i64 z) := cell_of h rfl
theorem Mk.lt {w : World} {b : Nat} {x y z : Int} (h : Mk w b x y z) : b < w.heap.size := (Array.getElem?_eq_some_iff.1 h).1
theorem Mk.new (w : World) (x y z : Int) : Mk (w.alloc (mkObj x y z)) w.heap.size x y z := alloc_heap_new _ _
theorem Mk.alloc {w : World} {b : Nat} {x y z : Int} (h : Mk w b x y z) (o : Obj) : Mk (w.alloc o) b x y z := (alloc_heap_old w o h.lt).trans h
theorem Mk.keep {w w' : World} {b : Nat} {x y z : Int} (h : Mk w b x y z) (hb : Below w.heap.size w w') : Mk w' b x y z := (hb.block b h.lt).trans h

def or3 (x y z : Int) : Int := if x = 0 then (if y = 0 then z else y) else x

theorem ret_int {x y : Int} (h : x = y) : Ending.returned (.int .i64 x) = .returned (.int .i64 y) := by rw [h]

set_option maxHeartbeats 1000000 in
theorem or3_any (x y z : Int) (w : World) (b : Nat) (cap : Nat) (h0 : w.cell? ⟨b, 0, none⟩ = some (.int .i64 x)) (h1 : w.cell? ⟨b, 1, none⟩ = some (.int .i64 y)) (h2 : w.cell? ⟨b, 2, none⟩ = some (.int .i64 z)) :
    Calls Tryz.prog 84 #[.slice (some ⟨b, 0, none⟩) 3 cap] w fun e w' => e = .returned (.int .i64 (or3 x y z)) ∧ w' = w := by
  obtain ⟨r, hr⟩ : ∃ r, or3 x y z = r := ⟨_, rfl⟩
  rw [hr]
  unfold or3 at hr
  have R := Lib.hid hr
  clear hr
  go_enter Tryz.func84, Tryz.ntmps84
  go_wp2_with fail
  go_loop [8] (fun i => i = .int .i64 0 ∨ (i = .int .i64 1 ∧ x = 0) ∨ (i = .int .i64 2 ∧ x = 0 ∧ y = 0) ∨ (i = .int .i64 3 ∧ x = 0 ∧ y = 0 ∧ z = 0)) (fun i => (3 - intOf i).toNat)
  case atStart => exact .inl rfl
  case round =>
    rcases hrel with rfl | ⟨rfl, hx⟩ | ⟨rfl, hx, hy⟩ | ⟨rfl, hx, hy, hz⟩
    · by_cases hx : x = 0
      · go_wp2
        all_goals first
          | (exfalso; simp_all; done)
          | (go_round
             case rel => exact .inr (.inl ⟨rfl, hx⟩)
             case measure => simp [intOf])
      · go_wp2
        all_goals first
          | (exfalso; simp_all; done)
          | (go_ret; exact ⟨ret_int (by rw [← R.out, if_neg hx]), rfl⟩)
    · have HX := Lib.hid hx
      clear hx
      by_cases hy : y = 0
      · go_wp2
        all_goals first
          | (exfalso; simp_all; done)
          | (go_round
             case rel => exact .inr (.inr (.inl ⟨rfl, HX.out, hy⟩))
             case measure => simp [intOf])
      · go_wp2
        all_goals first
          | (exfalso; simp_all; done)
          | (go_ret; exact ⟨ret_int (by rw [← R.out, if_pos HX.out, if_neg hy]), rfl⟩)
    · have HX := Lib.hid hx
      have HY := Lib.hid hy
      clear hx hy
      by_cases hz : z = 0
      · go_wp2
        all_goals first
          | (exfalso; simp_all; done)
          | (go_round
             case rel => exact .inr (.inr (.inr ⟨rfl, HX.out, HY.out, hz⟩))
             case measure => simp [intOf])
      · go_wp2
        all_goals first
          | (exfalso; simp_all; done)
          | (go_ret; exact ⟨ret_int (by rw [← R.out, if_pos HX.out, if_pos HY.out]), rfl⟩)
    · have HX := Lib.hid hx
      have HY := Lib.hid hy
      have HZ := Lib.hid hz
      clear hx hy hz
      go_wp2
      go_ret
      exact ⟨ret_int (by rw [← R.out, if_pos HX.out, if_pos HY.out, HZ.out]), rfl⟩

def cmpM (x y z p q r : Int) : Int := or3 (Lib.compareInt x p) (Lib.compareInt y q) (Lib.compareInt z r)

theorem mk2 (w : World) (x y z p q r : Int) : Below w.heap.size w ((w.alloc (mkObj x y z)).alloc (mkObj p q r)) ∧ Mk ((w.alloc (mkObj x y z)).alloc (mkObj p q r)) w.heap.size x y z ∧ Mk ((w.alloc (mkObj x y z)).alloc (mkObj p q r)) (w.heap.size + 1) p q r := by
  refine ⟨((Below.refl _ _).alloc (Nat.le_refl _) _).alloc (by simp) _, (Mk.new w x y z).alloc _, ?_⟩
  have := Mk.new (w.alloc (mkObj x y z)) p q r
  rwa [World.size_alloc] at this

set_option maxRecDepth 100000 in
set_option maxHeartbeats 2000000 in
theorem compareMarks_any (x y z p q r : Int) (w : World) :
    Calls Tryz.prog 68 #[mk x y z, mk p q r] w fun e w' => e = .returned (.int .i64 (cmpM x y z p q r)) ∧ Below w.heap.size w w' := by
  have C0 := fun w => compare_any x p w
  have C1 := fun w => compare_any y q w
  have C2 := fun w => compare_any z r w
  unfold cmpM
  generalize Lib.compareInt x p = u0 at C0 ⊢
  generalize Lib.compareInt y q = u1 at C1 ⊢
  generalize Lib.compareInt z r = u2 at C2 ⊢
  go_enter Tryz.func68, Tryz.ntmps68
  go_wp2_with fail
  obtain ⟨b0, m0, m1⟩ := mk2 w x y z p q r
  obtain ⟨W, hW⟩ : ∃ W, (w.alloc (mkObj x y z)).alloc (mkObj p q r) = W := ⟨_, rfl⟩
  simp only [hW] at b0 m0 m1
  change Code.wp _ _ _ _ ((w.alloc (mkObj x y z)).alloc (mkObj p q r))
  rw [hW]
  clear hW
  have d0 : ({ W with drawn := W.drawn + 1 } : World).cell? ⟨w.heap.size, 0, none⟩ = some (.int .i64 x) := m0.c0
  have d1 : ({ W with drawn := W.drawn + 1 } : World).cell? ⟨w.heap.size, 1, none⟩ = some (.int .i64 y) := m0.c1
  have d2 : ({ W with drawn := W.drawn + 1 } : World).cell? ⟨w.heap.size, 2, none⟩ = some (.int .i64 z) := m0.c2
  have d3 : ({ W with drawn := W.drawn + 1 } : World).cell? ⟨w.heap.size + 1, 0, none⟩ = some (.int .i64 p) := m1.c0
  have d4 : ({ W with drawn := W.drawn + 1 } : World).cell? ⟨w.heap.size + 1, 1, none⟩ = some (.int .i64 q) := m1.c1
  have d5 : ({ W with drawn := W.drawn + 1 } : World).cell? ⟨w.heap.size + 1, 2, none⟩ = some (.int .i64 r) := m1.c2
  have c0 := m0.c0
  have c1 := m0.c1
  have c2 := m0.c2
  have c3 := m1.c0
  have c4 := m1.c1
  have c5 := m1.c2
  go_still_tail 15, (by kernel_rfl)
  still_call (C0 _)
  repeat still_step
  still_call (C1 _)
  repeat still_step
  still_call (C2 _)
  repeat still_step
  refine wpStill_nil ?_
  clear d0 d1 d2 d3 d4 d5 m0 m1 c0 c1 c2 c3 c4 c5
  change wpList _ _ _ _ _ W.drew
  go_wp2_with fail
  have o0 : ((W.alloc (.cells #[.int .i64 u0, .int .i64 u1, .int .i64 u2] 3)).drew).cell? ⟨W.heap.size, 0, none⟩ = some (.int .i64 u0) := by go_simp
  have o1 : ((W.alloc (.cells #[.int .i64 u0, .int .i64 u1, .int .i64 u2] 3)).drew).cell? ⟨W.heap.size, 1, none⟩ = some (.int .i64 u1) := by go_simp
  have o2 : ((W.alloc (.cells #[.int .i64 u0, .int .i64 u1, .int .i64 u2] 3)).drew).cell? ⟨W.heap.size, 2, none⟩ = some (.int .i64 u2) := by go_simp
  have O := or3_any u0 u1 u2 _ W.heap.size 3 o0 o1 o2
  refine O.mono ?_
  rintro e w2 ⟨rfl, rfl⟩
  clear o0 o1 o2 O
  go_wp2
  go_ret
  exact ⟨rfl, (b0.alloc b0.size _).drew⟩

theorem cmpM_lt (x y z p q r : Int) : decide (cmpM x y z p q r < 0) = (if x = p then (if y = q then decide (z < r) else decide (y < q)) else decide (x < p)) := by
  unfold cmpM or3 Lib.compareInt
  repeat' split
  all_goals first
    | rfl
    | (simp; omega)
    | omega

end Go.Proofs.YtkmcboincjohlaaGreat

/- Walks: Grey, and the reference's within, ValidFilm, Grey. -/
namespace Go.Proofs.YtkmcboincjohlaaGreat
open Go Go.RowKit Go.Proofs

end Go.Proofs.YtkmcboincjohlaaGreat

/- Walks: the reference's order of marks; lists of marks that rise. -/
namespace Go.Proofs.YtkmcboincjohlaaGreat
open Go Go.RowKit Go.Proofs

structure M3 where
  x : Int
  y : Int
  z : Int

def mq (M : List M3) (k : Nat) : M3 := M.getD k ⟨0, 0, 0⟩

/-- The value is a slice, nil or not, that holds the marks of M. -/
def SlM (w : World) (v : Value) (M : List M3) : Prop := ∃ a cap, v = .slice a M.length cap ∧ M.length ≤ 9223372036854775807 ∧
  ∀ k, k < M.length → ∃ b off, a = some ⟨b, off, none⟩ ∧ w.cell? ⟨b, off + k * 3, none⟩ = some (.int .i64 (mq M k).x) ∧ w.cell? ⟨b, off + k * 3 + 1, none⟩ = some (.int .i64 (mq M k).y) ∧ w.cell? ⟨b, off + k * 3 + 2, none⟩ = some (.int .i64 (mq M k).z)

theorem SlM.keep {w w' : World} {v : Value} {M : List M3} (h : SlM w v M) (hb : Below w.heap.size w w') : SlM w' v M := by
  obtain ⟨a, cap, rfl, hl, hc⟩ := h
  refine ⟨a, cap, rfl, hl, fun k hk => ?_⟩
  obtain ⟨b, off, rfl, h0, h1, h2⟩ := hc k hk
  exact ⟨b, off, rfl, keep_cell hb h0, keep_cell hb h1, keep_cell hb h2⟩

def cmpK (M : List M3) (k : Nat) : Int := cmpM (mq M k).x (mq M k).y (mq M k).z (mq M (k + 1)).x (mq M (k + 1)).y (mq M (k + 1)).z
def risesM (M : List M3) : Bool := (List.range (M.length - 1)).all fun k => decide (cmpK M k < 0)

theorem risesM_true {M : List M3} (h : ∀ k, k + 1 < M.length → cmpK M k < 0) : risesM M = true := by
  unfold risesM
  rw [List.all_eq_true]
  intro k hk
  exact decide_eq_true (h k (by have := List.mem_range.1 hk; omega))

theorem risesM_false {M : List M3} (k : Nat) (hk : k + 1 < M.length) (h : 0 ≤ cmpK M k) : risesM M = false := by
  unfold risesM
  rw [List.all_eq_false]
  exact ⟨k, List.mem_range.2 (by omega), by simp; omega⟩

set_option maxRecDepth 100000 in
set_option maxHeartbeats 2000000 in
theorem risingM_any (v : Value) (M : List M3) (w : World) (h : SlM w v M) :
    Calls Tryz.prog 94 #[v, .func (.func 68) #[] #[]] w fun e w' => e = .returned (.bool (risesM M)) ∧ Below w.heap.size w w' := by
  obtain ⟨a, cap, rfl, hl, hc⟩ := h
  have HF := Lib.hid (risesM_false (M := M))
  have HA := Lib.hid (risesM_true (M := M))
  generalize risesM M = r at HA HF ⊢
  have HC := Lib.hid hc
  clear hc
  obtain ⟨n, hn⟩ : ∃ n, M.length = n := ⟨_, rfl⟩
  rw [hn] at HA HF HC hl ⊢
  clear hn
  go_enter Tryz.func94, Tryz.ntmps94
  go_wp2_with fail
  go_loopw [5] (fun i wr => ∃ k : Nat, (k + 1 ≤ n ∨ k = 0) ∧ i = .int .i64 (k + 1) ∧ Below w.heap.size w wr ∧ ∀ j, j < k → j + 1 < n → cmpK M j < 0) (fun i _ => n - (intOf i).toNat)
  case atStart => exact ⟨0, .inr rfl, rfl, Below.refl _ _, by simp⟩
  case round =>
    obtain ⟨k, hk, rfl, hbel, hall⟩ := hrel
    have HL := Lib.hid hall
    clear hall
    by_cases hlt : k + 1 < n
    · have j1 : (k : Int) + 1 < (n : Int) := by omega
      have e1 : IntKind.i64.wrap (k : Int) = k := wi64 _ (by omega)
      obtain ⟨b, off, rfl, c0, c1, c2⟩ := HC.out k (by omega)
      obtain ⟨b', off', hbb, d0, d1, d2⟩ := HC.out (k + 1) hlt
      obtain ⟨rfl, rfl⟩ : b = b' ∧ off = off' := by cases hbb; exact ⟨rfl, rfl⟩
      clear hbb
      replace c0 := keep_cell hbel c0
      replace c1 := keep_cell hbel c1
      replace c2 := keep_cell hbel c2
      replace d0 := keep_cell hbel d0
      replace d1 := keep_cell hbel d1
      replace d2 := keep_cell hbel d2
      have C := fun w => compareMarks_any (mq M k).x (mq M k).y (mq M k).z (mq M (k + 1)).x (mq M (k + 1)).y (mq M (k + 1)).z w
      obtain ⟨c, hcc⟩ : ∃ x, cmpM (mq M k).x (mq M k).y (mq M k).z (mq M (k + 1)).x (mq M (k + 1)).y (mq M (k + 1)).z = x := ⟨_, rfl⟩
      simp only [hcc] at C
      have HB : Hid (cmpK M k = c) := hcc
      clear hcc
      generalize (mq M k).x = x0 at c0 C
      generalize (mq M k).y = x1 at c1 C
      generalize (mq M k).z = x2 at c2 C
      generalize (mq M (k + 1)).x = y0 at d0 C
      generalize (mq M (k + 1)).y = y1 at d1 C
      generalize (mq M (k + 1)).z = y2 at d2 C
      have j2 : (k : Int) < (n : Int) := by omega
      have j3 : (0 : Int) ≤ (k : Int) := by omega
      have j4 : (0 : Int) ≤ (k : Int) + 1 := by omega
      have j5 : ((k : Int) + 1).toNat = k + 1 := by omega
      have G0 := grow_cell c0
      have G1 := grow_cell c1
      have G2 := grow_cell c2
      have G3 := grow_cell d0
      have G4 := grow_cell d1
      have G5 := grow_cell d2
      go_wp2_with fail
      refine wp_region_grow (by kernel_rfl) (by kernel_rfl) ?_
      repeat (go_big_quiet_step ((go_at_call 68; with_reducible exact calls_grow (C _))))
      refine wpQuiet_nil ?_
      rintro w2 ⟨x, hx⟩
      have hb : Below wr.heap.size wr w2 := by rw [hx]; exact x.b
      clear hx x G0 G1 G2 G3 G4 G5 c0 c1 c2 d0 d1 d2 C e1 j5 j2 j3 j4
      have hbel2 := keep_below hbel hb
      clear hb
      by_cases hc0 : (0 : Int) ≤ c
      · go_wp2
        go_ret
        exact ⟨by rw [HF.out k hlt (by rw [HB.out]; exact hc0)]; rfl, hbel2⟩
      · go_wp2
        refine ⟨⟨k + 1, by omega, by simp, hbel2, fun j hj hj1 => ?_⟩, by simp [intOf]; omega⟩
        rcases Nat.lt_or_ge j k with h | h
        · exact HL.out j h hj1
        · obtain rfl : j = k := by omega
          rw [HB.out]; omega
    · have j1 : ¬ (k : Int) + 1 < (n : Int) := by omega
      go_wp2
      go_ret
      exact ⟨by rw [HA.out (fun j hj => HL.out j (by omega) hj)]; rfl, hbel⟩

end Go.Proofs.YtkmcboincjohlaaGreat

/- Walks: valid marks. -/
namespace Go.Proofs.YtkmcboincjohlaaGreat
open Go Go.RowKit Go.Proofs

def M3.ok (lo hi : Int) (m : M3) : Bool := wi m.x lo hi && wi m.y 0 16 && wi m.z 1 16
def badM (lo hi : Int) (M : List M3) : Bool := (List.range M.length).any fun k => !(mq M k).ok lo hi
def vMs (lo hi : Int) (M : List M3) : Bool := decide (M.length ≤ 32) && !badM lo hi M && risesM M

theorem badM_true {lo hi : Int} {M : List M3} (k : Nat) (hk : k < M.length) (h : (mq M k).ok lo hi = false) : badM lo hi M = true := by
  unfold badM
  rw [List.any_eq_true]
  exact ⟨k, List.mem_range.2 hk, by simp [h]⟩

theorem badM_false {lo hi : Int} {M : List M3} (h : ∀ k, k < M.length → (mq M k).ok lo hi = true) : badM lo hi M = false := by
  unfold badM
  rw [List.any_eq_false]
  intro k hk
  simp [h k (List.mem_range.1 hk)]

set_option maxRecDepth 100000 in
set_option maxHeartbeats 2000000 in
theorem validMarks_any (v : Value) (lo hi : Int) (M : List M3) (w : World) (h : SlM w v M) :
    Calls Tryz.prog 56 #[v, spn lo hi] w fun e w' => e = .returned (.bool (vMs lo hi M)) ∧ Below w.heap.size w w' := by
  have b0 : Below w.heap.size w (w.alloc (spnObj lo hi)) := (Below.refl _ _).alloc (Nat.le_refl _) _
  have s0 := Sp.new w lo hi
  have RI := fun W hb => risingM_any v M W (h.keep (w' := W) hb)
  obtain ⟨a, cap, rfl, hl, hc⟩ := h
  unfold vMs
  have HA := Lib.hid (badM_true (lo := lo) (hi := hi) (M := M))
  have HF := Lib.hid (badM_false (lo := lo) (hi := hi) (M := M))
  have HC := Lib.hid hc
  clear hc
  generalize badM lo hi M = r at HA HF ⊢
  generalize risesM M = up at RI ⊢
  have HR := Lib.hid RI
  clear RI
  obtain ⟨n, hn⟩ : ∃ n, M.length = n := ⟨_, rfl⟩
  rw [hn] at HA HF HC HR hl ⊢
  clear hn
  by_cases h1 : 32 < n
  · have j1 : (32 : Int) < (n : Int) := by omega
    have HH : decide (n ≤ 32) = false := by simp; omega
    rw [HH]
    clear h1 HH
    go_enter Tryz.func56, Tryz.ntmps56
    go_wp2
    go_ret
    exact ⟨by simp, b0⟩
  · have j1 : ¬ (32 : Int) < (n : Int) := by omega
    have HH : decide (n ≤ 32) = true := by simp; omega
    rw [HH]
    clear h1 HH
    go_enter Tryz.func56, Tryz.ntmps56
    go_wp2_with fail
    obtain ⟨W0, hW0⟩ : ∃ W0, w.alloc (spnObj lo hi) = W0 := ⟨_, rfl⟩
    rw [hW0] at b0 s0
    change Code.wp _ _ _ _ (w.alloc (spnObj lo hi))
    rw [hW0]
    clear hW0
    go_loopw [12] (fun i wr => ∃ k : Nat, k ≤ n ∧ i = .int .i64 k ∧ Below w.heap.size w wr ∧ Sp wr w.heap.size lo hi ∧ ∀ j, j < k → (mq M j).ok lo hi = true) (fun i _ => n - (intOf i).toNat)
    case atStart => exact ⟨0, Nat.zero_le _, rfl, b0, s0, by simp⟩
    case round =>
      clear b0 s0 W0
      obtain ⟨k, hk, rfl, hb, sp, hall⟩ := hrel
      have HL := Lib.hid hall
      clear hall
      by_cases hlt : k < n
      · have jk : (k : Int) < (n : Int) := by omega
        obtain ⟨b, off, rfl, c0, c1, c2⟩ := HC.out k hlt
        replace c0 := keep_cell hb c0
        replace c1 := keep_cell hb c1
        replace c2 := keep_cell hb c2
        obtain ⟨x, hx⟩ : ∃ x, (mq M k).x = x := ⟨_, rfl⟩
        obtain ⟨y, hy⟩ : ∃ y, (mq M k).y = y := ⟨_, rfl⟩
        obtain ⟨z, hz⟩ : ∃ z, (mq M k).z = z := ⟨_, rfl⟩
        have hok : (mq M k).ok lo hi = (wi x lo hi && wi y 0 16 && wi z 1 16) := by rw [← hx, ← hy, ← hz]; rfl
        rw [hx] at c0
        rw [hy] at c1
        rw [hz] at c2
        clear hx hy hz
        have C1 := fun w => contains51_any lo hi x w
        have C2 := fun w => within_any y 0 16 w
        have C3 := fun w => within_any z 1 16 w
        generalize wi x lo hi = p1 at C1 hok
        generalize wi y 0 16 = p2 at C2 hok
        generalize wi z 1 16 = p3 at C3 hok
        have HOK := Lib.hid hok
        clear hok
        go_upto_region 6 with (fail)
        have sp' := sp.alloc (mkObj x y z)
        have mk' := Mk.new wr x y z
        have hb' := hb.alloc hb.size (mkObj x y z)
        obtain ⟨W1, hW1⟩ : ∃ W1, wr.alloc (mkObj x y z) = W1 := ⟨_, rfl⟩
        obtain ⟨B, hB⟩ : ∃ B, wr.heap.size = B := ⟨_, rfl⟩
        rw [hW1] at sp' mk' hb'
        change Code.wp _ _ _ _ (wr.alloc (mkObj x y z))
        rw [hW1]
        rw [hB] at mk' ⊢
        clear hW1 hB c0 c1 c2 sp hb
        have s0 := sp'.c0
        have s1 := sp'.c1
        have m0 := mk'.c0
        have m1 := mk'.c1
        have m2 := mk'.c2
        cases p1
        · have hr := HA.out k hlt (by rw [HOK.out]; rfl)
          subst hr
          go_wp2_with (first
            | (go_at_call 93; with_reducible refine (C1 _).mono ?_; rintro e w1 ⟨rfl, hb1⟩
               have n1 := keep_cell hb1 m1
               have n2 := keep_cell hb1 m2
               have hb2 := keep_below hb' hb1
               have sp2 := sp'.keep hb1
               clear m0 m1 m2 s0 s1 C1))
          go_ret
          exact ⟨by simp, hb2⟩
        · cases p2
          · have hr := HA.out k hlt (by rw [HOK.out]; rfl)
            subst hr
            go_wp2_with (first
            | (go_at_call 93; with_reducible refine (C1 _).mono ?_; rintro e w1 ⟨rfl, hb1⟩
               have n1 := keep_cell hb1 m1
               have n2 := keep_cell hb1 m2
               have hb2 := keep_below hb' hb1
               have sp2 := sp'.keep hb1
               clear m0 m1 m2 s0 s1 C1)
            | (go_at_call 23; with_reducible refine (C2 _).mono ?_; rintro e w2 ⟨rfl, rfl⟩))
            go_ret
            exact ⟨by simp, hb2⟩
          · cases p3
            · have hr := HA.out k hlt (by rw [HOK.out]; rfl)
              subst hr
              go_wp2_with (first
            | (go_at_call 93; with_reducible refine (C1 _).mono ?_; rintro e w1 ⟨rfl, hb1⟩
               have n1 := keep_cell hb1 m1
               have n2 := keep_cell hb1 m2
               have hb2 := keep_below hb' hb1
               have sp2 := sp'.keep hb1
               clear m0 m1 m2 s0 s1 C1)
            | (go_at_call 23; with_reducible refine (C2 _).mono ?_; rintro e w2 ⟨rfl, rfl⟩)
            | (go_at_call 23; with_reducible refine (C3 _).mono ?_; rintro e w2 ⟨rfl, rfl⟩))
              go_ret
              exact ⟨by simp, hb2⟩
            · go_wp2_with (first
            | (go_at_call 93; with_reducible refine (C1 _).mono ?_; rintro e w1 ⟨rfl, hb1⟩
               have n1 := keep_cell hb1 m1
               have n2 := keep_cell hb1 m2
               have hb2 := keep_below hb' hb1
               have sp2 := sp'.keep hb1
               clear m0 m1 m2 s0 s1 C1)
            | (go_at_call 23; with_reducible refine (C2 _).mono ?_; rintro e w2 ⟨rfl, rfl⟩)
            | (go_at_call 23; with_reducible refine (C3 _).mono ?_; rintro e w2 ⟨rfl, rfl⟩))
              refine ⟨⟨k + 1, by omega, by simp, hb2, sp2, fun j hj => ?_⟩, by simp [intOf]; omega⟩
              rcases Nat.lt_or_ge j k with h | h
              · exact HL.out j h
              · obtain rfl : j = k := by omega
                rw [HOK.out]; rfl
      · obtain rfl : k = n := by omega
        have hr := HF.out (fun j hj => HL.out j hj)
        have C := HR.out wr hb
        subst hr
        go_wp2_with (go_at_call 94; with_reducible refine C.mono ?_; rintro e w1 ⟨rfl, hb1⟩)
        go_ret
        exact ⟨by simp, keep_below hb hb1⟩

end Go.Proofs.YtkmcboincjohlaaGreat

/- Walks: the reference's marks. -/
namespace Go.Proofs.YtkmcboincjohlaaGreat
open Go Go.RowKit Go.Proofs

end Go.Proofs.YtkmcboincjohlaaGreat
