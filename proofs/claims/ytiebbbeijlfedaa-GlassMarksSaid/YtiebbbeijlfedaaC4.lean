/- Walks: marks compared. -/
import Derived.Test.YtiebbbeijlfedaaA7
namespace Go.Proofs.Ytiebbbeijlfedaa
open Go Go.RowKit Go.Proofs

abbrev mk (x y z : Int) : Value := .agg #[.int .i64 x, .int .i64 y, .int .i64 z]
abbrev mkObj (x y z : Int) : Obj := .cells #[.int .i64 x, .int .i64 y, .int .i64 z] 61

/-- A mark lies in a block of its own. -/
def Mk (w : World) (b : Nat) (x y z : Int) : Prop := w.heap[b]? = some (.cells #[.int .i64 x, .int .i64 y, .int .i64 z] 61 (0, 0))
theorem Mk.c0 {w : World} {b : Nat} {x y z : Int} (h : Mk w b x y z) : w.cell? ⟨b, 0, none⟩ = some (.int .i64 x) := cell_of h rfl
theorem Mk.c1 {w : World} {b : Nat} {x y z : Int} (h : Mk w b x y z) : w.cell? ⟨b, 1, none⟩ = some (.int .i64 y) := cell_of h rfl
theorem Mk.c2 {w : World} {b : Nat} {x y z : Int} (h : Mk w b x y z) : w.cell? ⟨b, 2, none⟩ = some (.int .i64 z) := cell_of h rfl
theorem Mk.lt {w : World} {b : Nat} {x y z : Int} (h : Mk w b x y z) : b < w.heap.size := (Array.getElem?_eq_some_iff.1 h).1
theorem Mk.new (w : World) (x y z : Int) : Mk (w.alloc (mkObj x y z)) w.heap.size x y z := alloc_heap_new _ _
theorem Mk.alloc {w : World} {b : Nat} {x y z : Int} (h : Mk w b x y z) (o : Obj) : Mk (w.alloc o) b x y z := (alloc_heap_old w o h.lt).trans h
theorem Mk.keep {w w' : World} {b : Nat} {x y z : Int} (h : Mk w b x y z) (hb : Below w.heap.size w w') : Mk w' b x y z := (hb.block b h.lt).trans h

def or3 (x y z : Int) : Int := if x = 0 then (if y = 0 then z else y) else x

theorem ret_int {x y : Int} (h : x = y) : Ending.returned (.int .i64 x) = .returned (.int .i64 y) := by rw [h]

set_option maxHeartbeats 1000000 in
theorem or3_any (x y z : Int) (w : World) (b : Nat) (cap : Nat) (h0 : w.cell? ⟨b, 0, none⟩ = some (.int .i64 x)) (h1 : w.cell? ⟨b, 1, none⟩ = some (.int .i64 y)) (h2 : w.cell? ⟨b, 2, none⟩ = some (.int .i64 z)) :
    Calls Try.prog 101 #[.slice (some ⟨b, 0, none⟩) 3 cap] w fun e w' => e = .returned (.int .i64 (or3 x y z)) ∧ w' = w := by
  obtain ⟨r, hr⟩ : ∃ r, or3 x y z = r := ⟨_, rfl⟩
  rw [hr]
  unfold or3 at hr
  have R := Lib.hid hr
  clear hr
  go_enter Try.func101, Try.ntmps101
  go_wp2_with fail
  go_loop [8] (fun i => i = .int .i64 0 ∨ (i = .int .i64 1 ∧ x = 0) ∨ (i = .int .i64 2 ∧ x = 0 ∧ y = 0) ∨ (i = .int .i64 3 ∧ x = 0 ∧ y = 0 ∧ z = 0)) (fun i => (3 - intOf i).toNat)
  case atStart => exact .inl rfl
  case round =>
    rcases hrel with rfl | ⟨rfl, hx⟩ | ⟨rfl, hx, hy⟩ | ⟨rfl, hx, hy, hz⟩
    · by_cases hx : x = 0
      · go_wp2
        all_goals first
          | (exfalso; simp_all; done)
          | (go_round
             case rel => exact .inr (.inl ⟨rfl, hx⟩)
             case measure => simp [intOf])
      · go_wp2
        all_goals first
          | (exfalso; simp_all; done)
          | (go_ret; exact ⟨ret_int (by rw [← R.out, if_neg hx]), rfl⟩)
    · have HX := Lib.hid hx
      clear hx
      by_cases hy : y = 0
      · go_wp2
        all_goals first
          | (exfalso; simp_all; done)
          | (go_round
             case rel => exact .inr (.inr (.inl ⟨rfl, HX.out, hy⟩))
             case measure => simp [intOf])
      · go_wp2
        all_goals first
          | (exfalso; simp_all; done)
          | (go_ret; exact ⟨ret_int (by rw [← R.out, if_pos HX.out, if_neg hy]), rfl⟩)
    · have HX := Lib.hid hx
      have HY := Lib.hid hy
      clear hx hy
      by_cases hz : z = 0
      · go_wp2
        all_goals first
          | (exfalso; simp_all; done)
          | (go_round
             case rel => exact .inr (.inr (.inr ⟨rfl, HX.out, HY.out, hz⟩))
             case measure => simp [intOf])
      · go_wp2
        all_goals first
          | (exfalso; simp_all; done)
          | (go_ret; exact ⟨ret_int (by rw [← R.out, if_pos HX.out, if_pos HY.out]), rfl⟩)
    · have HX := Lib.hid hx
      have HY := Lib.hid hy
      have HZ := Lib.hid hz
      clear hx hy hz
      go_wp2
      go_ret
      exact ⟨ret_int (by rw [← R.out, if_pos HX.out, if_pos HY.out, HZ.out]), rfl⟩

def cmpM (x y z p q r : Int) : Int := or3 (Lib.compareInt x p) (Lib.compareInt y q) (Lib.compareInt z r)

theorem mk2 (w : World) (x y z p q r : Int) : Below w.heap.size w ((w.alloc (mkObj x y z)).alloc (mkObj p q r)) ∧ Mk ((w.alloc (mkObj x y z)).alloc (mkObj p q r)) w.heap.size x y z ∧ Mk ((w.alloc (mkObj x y z)).alloc (mkObj p q r)) (w.heap.size + 1) p q r := by
  refine ⟨((Below.refl _ _).alloc (Nat.le_refl _) _).alloc (by simp) _, (Mk.new w x y z).alloc _, ?_⟩
  have := Mk.new (w.alloc (mkObj x y z)) p q r
  rwa [World.size_alloc] at this

set_option maxRecDepth 100000 in
set_option maxHeartbeats 2000000 in
theorem compareMarks_any (x y z p q r : Int) (w : World) :
    Calls Try.prog 68 #[mk x y z, mk p q r] w fun e w' => e = .returned (.int .i64 (cmpM x y z p q r)) ∧ Below w.heap.size w w' := by
  have C0 := fun w => compare_any x p w
  have C1 := fun w => compare_any y q w
  have C2 := fun w => compare_any z r w
  unfold cmpM
  generalize Lib.compareInt x p = u0 at C0 ⊢
  generalize Lib.compareInt y q = u1 at C1 ⊢
  generalize Lib.compareInt z r = u2 at C2 ⊢
  go_enter Try.func68, Try.ntmps68
  go_wp2_with fail
  obtain ⟨b0, m0, m1⟩ := mk2 w x y z p q r
  obtain ⟨W, hW⟩ : ∃ W, (w.alloc (mkObj x y z)).alloc (mkObj p q r) = W := ⟨_, rfl⟩
  simp only [hW] at b0 m0 m1
  change Code.wp _ _ _ _ ((w.alloc (mkObj x y z)).alloc (mkObj p q r))
  rw [hW]
  clear hW
  have d0 : ({ W with drawn := W.drawn + 1 } : World).cell? ⟨w.heap.size, 0, none⟩ = some (.int .i64 x) := m0.c0
  have d1 : ({ W with drawn := W.drawn + 1 } : World).cell? ⟨w.heap.size, 1, none⟩ = some (.int .i64 y) := m0.c1
  have d2 : ({ W with drawn := W.drawn + 1 } : World).cell? ⟨w.heap.size, 2, none⟩ = some (.int .i64 z) := m0.c2
  have d3 : ({ W with drawn := W.drawn + 1 } : World).cell? ⟨w.heap.size + 1, 0, none⟩ = some (.int .i64 p) := m1.c0
  have d4 : ({ W with drawn := W.drawn + 1 } : World).cell? ⟨w.heap.size + 1, 1, none⟩ = some (.int .i64 q) := m1.c1
  have d5 : ({ W with drawn := W.drawn + 1 } : World).cell? ⟨w.heap.size + 1, 2, none⟩ = some (.int .i64 r) := m1.c2
  have c0 := m0.c0
  have c1 := m0.c1
  have c2 := m0.c2
  have c3 := m1.c0
  have c4 := m1.c1
  have c5 := m1.c2
  go_still_tail 15, (by kernel_rfl)
  still_call (C0 _)
  repeat still_step
  still_call (C1 _)
  repeat still_step
  still_call (C2 _)
  repeat still_step
  refine wpStill_nil ?_
  clear d0 d1 d2 d3 d4 d5 m0 m1 c0 c1 c2 c3 c4 c5
  change wpList _ _ _ _ _ W.drew
  go_wp2_with fail
  have o0 : ((W.alloc (.cells #[.int .i64 u0, .int .i64 u1, .int .i64 u2] 3)).drew).cell? ⟨W.heap.size, 0, none⟩ = some (.int .i64 u0) := by go_simp
  have o1 : ((W.alloc (.cells #[.int .i64 u0, .int .i64 u1, .int .i64 u2] 3)).drew).cell? ⟨W.heap.size, 1, none⟩ = some (.int .i64 u1) := by go_simp
  have o2 : ((W.alloc (.cells #[.int .i64 u0, .int .i64 u1, .int .i64 u2] 3)).drew).cell? ⟨W.heap.size, 2, none⟩ = some (.int .i64 u2) := by go_simp
  have O := or3_any u0 u1 u2 _ W.heap.size 3 o0 o1 o2
  refine O.mono ?_
  rintro e w2 ⟨rfl, rfl⟩
  clear o0 o1 o2 O
  go_wp2
  go_ret
  exact ⟨rfl, (b0.alloc b0.size _).drew⟩

theorem cmpM_lt (x y z p q r : Int) : decide (cmpM x y z p q r < 0) = (if x = p then (if y = q then decide (z < r) else decide (y < q)) else decide (x < p)) := by
  unfold cmpM or3 Lib.compareInt
  repeat' split
  all_goals first
    | rfl
    | (simp; omega)
    | omega

end Go.Proofs.Ytiebbbeijlfedaa
