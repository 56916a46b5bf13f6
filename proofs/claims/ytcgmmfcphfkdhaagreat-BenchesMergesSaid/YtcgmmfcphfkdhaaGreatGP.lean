/- Walks: valid pieces of glass, the program's and the reference's. -/
import Derived.Test.YtcgmmfcphfkdhaaGreatB1
import Derived.Deep.RegionHeld3
import Derived.Deep.QuietTactic
import Derived.BigQuiet
import Derived.Laws.CopyOwn
import Derived.Deep.MidRow
import Derived.StillTailTactics
import Derived.Deep.Upon
import Derived.Deep.Cut
import Derived.Deep.CutBlock
import Derived.OwnWalk
import Derived.Deep.WholeRow
namespace Go.Proofs.YtcgmmfcphfkdhaaGreat
open Go Go.RowKit Go.Proofs

variable {P : Program}

set_option maxHeartbeats 400000 in
theorem compare_any (x y : Int) (w : World) :
    Calls Tryz.prog 109 #[.int .i64 x, .int .i64 y] w fun e w' => e = .returned (.int .i64 (Lib.compareInt x y)) ∧ w' = w := by
  go_enter Tryz.func109, Tryz.ntmps109
  go_wp2
  all_goals (go_ret; refine ⟨?_, rfl⟩; unfold Lib.compareInt; (repeat' split) <;> first | rfl | (exfalso; omega))


def Grow (W : World) : Type := { x : World // Below W.heap.size W x }


def Grow.w {W : World} (x : Grow W) : World := x.1

instance (W : World) : Nonempty (Grow W) := ⟨⟨W, Below.refl _ _⟩⟩

theorem Grow.b {W : World} (x : Grow W) : Below W.heap.size W x.w := x.2


theorem wp_region_grow {id : Nat} {Q : Exit → Act → World → Prop} {a : Act} {W : World} {l : List Oper} (hm : P.follows .mixedOrders = true) (hB : Region.lexB .any l.toArray = true)
    (h : wpQuiet P l.toArray (fun w' => ∃ x : Grow W, w' = x.w) (fun a' => ∀ w', (∃ x : Grow W, w' = x.w) → Q .normal a' w') l a) : (Code.region id l.toArray true).wp P Q a W :=
  wp_region_quiet (C := fun w' => ∃ x : Grow W, w' = x.w) hm hB ⟨⟨{ W with drawn := W.drawn + 1 }, ⟨rfl, rfl, rfl, Nat.le_refl _, fun _ _ => rfl⟩⟩, rfl⟩ (by simpa using h)


theorem calls_grow {f : FuncId} {args : Array Value} {W : World} {x : Grow W} {v : Value} (h : Calls P f args x.w fun e w' => e = .returned v ∧ Below x.w.heap.size x.w w') :
    Calls P f args x.w fun e w'' => e = .returned v ∧ ∃ y : Grow W, w'' = y.w :=
  h.mono fun _ w'' ⟨he, hb⟩ => ⟨he, ⟨w'', x.b.trans (hb.mono x.b.size)⟩, rfl⟩


theorem calls_grow_same {f : FuncId} {args : Array Value} {W : World} {x : Grow W} {v : Value} (h : Calls P f args x.w fun e w' => e = .returned v ∧ w' = x.w) :
    Calls P f args x.w fun e w'' => e = .returned v ∧ ∃ y : Grow W, w'' = y.w :=
  h.mono fun _ _ ⟨he, hb⟩ => ⟨he, x, hb⟩


theorem grow_cell {W : World} {b o : Nat} {v : Value} (h : W.cell? ⟨b, o, none⟩ = some v) : ∀ x : Grow W, x.w.cell? ⟨b, o, none⟩ = some v := fun x => (x.b.cell (World.block_lt_of_cell? W _ h)).trans h


def wi (n lo hi : Int) : Bool := decide (lo ≤ n) && decide (n ≤ hi)


set_option maxHeartbeats 400000 in
theorem within_any (n lo hi : Int) (w : World) :
    Calls Tryz.prog 279 #[.int .i64 n, .int .i64 lo, .int .i64 hi] w fun e w' => e = .returned (.bool (wi n lo hi)) ∧ w' = w := by
  obtain ⟨v, hv⟩ : ∃ v, wi n lo hi = v := ⟨_, rfl⟩
  rw [hv]
  go_enter Tryz.func279, Tryz.ntmps279
  go_wp2
  all_goals go_ret
  all_goals refine ⟨?_, rfl⟩
  all_goals rw [← hv]; unfold wi
  all_goals simp [*]
  all_goals (intros; omega)


def iz (L : List Int) (k : Nat) : Int := L.getD k 0


def SlI (w : World) (v : Value) (L : List Int) : Prop := ∃ a cap, v = .slice a L.length cap ∧ L.length ≤ 9223372036854775807 ∧
  ∀ k, k < L.length → ∃ b off, a = some ⟨b, off, none⟩ ∧ w.cell? ⟨b, off + k, none⟩ = some (.int .i64 (iz L k))


theorem SlI.keep {w w' : World} {v : Value} {L : List Int} (h : SlI w v L) (hb : Below w.heap.size w w') : SlI w' v L := by
  obtain ⟨a, cap, rfl, hl, hc⟩ := h
  refine ⟨a, cap, rfl, hl, fun k hk => ?_⟩
  obtain ⟨b, off, rfl, h⟩ := hc k hk
  exact ⟨b, off, rfl, keep_cell hb h⟩


theorem cell_of {w : World} {b k : Nat} {c : Array Value} {t : TypeId} {fr : Nat × Nat} {v : Value} (h : w.heap[b]? = some (.cells c t fr)) (hv : c[k]? = some v) : w.cell? ⟨b, k, none⟩ = some v := by
  unfold World.cell?
  simp [h, hv]


theorem alloc_heap_old (w : World) (o : Obj) {k : Nat} (h : k < w.heap.size) : (w.alloc o).heap[k]? = w.heap[k]? := by
  show (w.heap.push o)[k]? = _
  rw [Array.getElem?_push, if_neg (by omega)]


theorem alloc_heap_new (w : World) (o : Obj) : (w.alloc o).heap[w.heap.size]? = some o := by
  show (w.heap.push o)[w.heap.size]? = some o
  simp


abbrev spn (lo hi : Int) : Value := .agg #[.int .i64 lo, .int .i64 hi]

abbrev spnObj (lo hi : Int) : Obj := .cells #[.int .i64 lo, .int .i64 hi] 35


set_option maxHeartbeats 400000 in
theorem contains51_any (lo hi n : Int) (w : World) :
    Calls Tryz.prog 302 #[spn lo hi, .int .i64 n] w fun e w' => e = .returned (.bool (wi n lo hi)) ∧ Below w.heap.size w w' := by
  have C := fun w => within_any n lo hi w
  generalize wi n lo hi = c at C ⊢
  go_enter Tryz.func302, Tryz.ntmps302
  go_wp2_with fail
  refine (C _).mono ?_
  rintro e w1 ⟨rfl, rfl⟩
  go_wp2
  go_ret
  exact ⟨rfl, (Below.refl _ _).alloc (Nat.le_refl _) _⟩


def Sp (w : World) (b : Nat) (lo hi : Int) : Prop := w.heap[b]? = some (.cells #[.int .i64 lo, .int .i64 hi] 35 (0, 0))


theorem Sp.c0 {w : World} {b : Nat} {lo hi : Int} (h : Sp w b lo hi) : w.cell? ⟨b, 0, none⟩ = some (.int .i64 lo) := cell_of h rfl

theorem Sp.c1 {w : World} {b : Nat} {lo hi : Int} (h : Sp w b lo hi) : w.cell? ⟨b, 1, none⟩ = some (.int .i64 hi) := cell_of h rfl

theorem Sp.lt {w : World} {b : Nat} {lo hi : Int} (h : Sp w b lo hi) : b < w.heap.size := (Array.getElem?_eq_some_iff.1 h).1

theorem Sp.keep {w w' : World} {b : Nat} {lo hi : Int} (h : Sp w b lo hi) (hb : Below w.heap.size w w') : Sp w' b lo hi := (hb.block b h.lt).trans h

theorem Sp.new (w : World) (lo hi : Int) : Sp (w.alloc (.cells #[.int .i64 lo, .int .i64 hi] 35)) w.heap.size lo hi := alloc_heap_new _ _

theorem Sp.alloc {w : World} {b : Nat} {lo hi : Int} (h : Sp w b lo hi) (o : Obj) : Sp (w.alloc o) b lo hi := (alloc_heap_old w o h.lt).trans h


abbrev mk (x y z : Int) : Value := .agg #[.int .i64 x, .int .i64 y, .int .i64 z]

abbrev mkObj (x y z : Int) : Obj := .cells #[.int .i64 x, .int .i64 y, .int .i64 z] 198


def Mk (w : World) (b : Nat) (x y z : Int) : Prop := w.heap[b]? = some (.cells #[.int .i64 x, .int .i64 y, .int .i64 z] 198 (0, 0))

theorem Mk.c0 {w : World} {b : Nat} {x y z : Int} (h : Mk w b x y z) : w.cell? ⟨b, 0, none⟩ = some (.int .i64 x) := cell_of h rfl

theorem Mk.c1 {w : World} {b : Nat} {x y z : Int} (h : Mk w b x y z) : w.cell? ⟨b, 1, none⟩ = some (.int .i64 y) := cell_of h rfl

theorem Mk.c2 {w : World} {b : Nat} {x y z : Int} (h : Mk w b x y z) : w.cell? ⟨b, 2, none⟩ = some (.int .i64 z) := cell_of h rfl

theorem Mk.lt {w : World} {b : Nat} {x y z : Int} (h : Mk w b x y z) : b < w.heap.size := (Array.getElem?_eq_some_iff.1 h).1

theorem Mk.new (w : World) (x y z : Int) : Mk (w.alloc (mkObj x y z)) w.heap.size x y z := alloc_heap_new _ _

theorem Mk.alloc {w : World} {b : Nat} {x y z : Int} (h : Mk w b x y z) (o : Obj) : Mk (w.alloc o) b x y z := (alloc_heap_old w o h.lt).trans h

def or3 (x y z : Int) : Int := if x = 0 then (if y = 0 then z else y) else x


theorem ret_int {x y : Int} (h : x = y) : Ending.returned (.int .i64 x) = .returned (.int .i64 y) := by rw [h]


set_option maxHeartbeats 1000000 in
theorem or3_any (x y z : Int) (w : World) (b : Nat) (cap : Nat) (h0 : w.cell? ⟨b, 0, none⟩ = some (.int .i64 x)) (h1 : w.cell? ⟨b, 1, none⟩ = some (.int .i64 y)) (h2 : w.cell? ⟨b, 2, none⟩ = some (.int .i64 z)) :
    Calls Tryz.prog 108 #[.slice (some ⟨b, 0, none⟩) 3 cap] w fun e w' => e = .returned (.int .i64 (or3 x y z)) ∧ w' = w := by
  obtain ⟨r, hr⟩ : ∃ r, or3 x y z = r := ⟨_, rfl⟩
  rw [hr]
  unfold or3 at hr
  have R := Lib.hid hr
  clear hr
  go_enter Tryz.func108, Tryz.ntmps108
  go_wp2_with fail
  go_loop [8] (fun i => i = .int .i64 0 ∨ (i = .int .i64 1 ∧ x = 0) ∨ (i = .int .i64 2 ∧ x = 0 ∧ y = 0) ∨ (i = .int .i64 3 ∧ x = 0 ∧ y = 0 ∧ z = 0)) (fun i => (3 - intOf i).toNat)
  case atStart => exact .inl rfl
  case round =>
    rcases hrel with rfl | ⟨rfl, hx⟩ | ⟨rfl, hx, hy⟩ | ⟨rfl, hx, hy, hz⟩
    · by_cases hx : x = 0
      · go_wp2
        all_goals first
          | (exfalso; simp_all; done)
          | (go_round
             case rel => exact .inr (.inl ⟨rfl, hx⟩)
             case measure => simp [intOf])
      · go_wp2
        all_goals first
          | (exfalso; simp_all; done)
          | (go_ret; exact ⟨ret_int (by rw [← R.out, if_neg hx]), rfl⟩)
    · have HX := Lib.hid hx
      clear hx
      by_cases hy : y = 0
      · go_wp2
        all_goals first
          | (exfalso; simp_all; done)
          | (go_round
             case rel => exact .inr (.inr (.inl ⟨rfl, HX.out, hy⟩))
             case measure => simp [intOf])
      · go_wp2
        all_goals first
          | (exfalso; simp_all; done)
          | (go_ret; exact ⟨ret_int (by rw [← R.out, if_pos HX.out, if_neg hy]), rfl⟩)
    · have HX := Lib.hid hx
      have HY := Lib.hid hy
      clear hx hy
      by_cases hz : z = 0
      · go_wp2
        all_goals first
          | (exfalso; simp_all; done)
          | (go_round
             case rel => exact .inr (.inr (.inr ⟨rfl, HX.out, HY.out, hz⟩))
             case measure => simp [intOf])
      · go_wp2
        all_goals first
          | (exfalso; simp_all; done)
          | (go_ret; exact ⟨ret_int (by rw [← R.out, if_pos HX.out, if_pos HY.out]), rfl⟩)
    · have HX := Lib.hid hx
      have HY := Lib.hid hy
      have HZ := Lib.hid hz
      clear hx hy hz
      go_wp2
      go_ret
      exact ⟨ret_int (by rw [← R.out, if_pos HX.out, if_pos HY.out, HZ.out]), rfl⟩


def cmpM (x y z p q r : Int) : Int := or3 (Lib.compareInt x p) (Lib.compareInt y q) (Lib.compareInt z r)


theorem mk2 (w : World) (x y z p q r : Int) : Below w.heap.size w ((w.alloc (mkObj x y z)).alloc (mkObj p q r)) ∧ Mk ((w.alloc (mkObj x y z)).alloc (mkObj p q r)) w.heap.size x y z ∧ Mk ((w.alloc (mkObj x y z)).alloc (mkObj p q r)) (w.heap.size + 1) p q r := by
  refine ⟨((Below.refl _ _).alloc (Nat.le_refl _) _).alloc (by simp) _, (Mk.new w x y z).alloc _, ?_⟩
  have := Mk.new (w.alloc (mkObj x y z)) p q r
  rwa [World.size_alloc] at this


set_option maxRecDepth 100000 in
set_option maxHeartbeats 2000000 in
theorem compareMarks_any (x y z p q r : Int) (w : World) :
    Calls Tryz.prog 304 #[mk x y z, mk p q r] w fun e w' => e = .returned (.int .i64 (cmpM x y z p q r)) ∧ Below w.heap.size w w' := by
  have C0 := fun w => compare_any x p w
  have C1 := fun w => compare_any y q w
  have C2 := fun w => compare_any z r w
  unfold cmpM
  generalize Lib.compareInt x p = u0 at C0 ⊢
  generalize Lib.compareInt y q = u1 at C1 ⊢
  generalize Lib.compareInt z r = u2 at C2 ⊢
  go_enter Tryz.func304, Tryz.ntmps304
  go_wp2_with fail
  obtain ⟨b0, m0, m1⟩ := mk2 w x y z p q r
  obtain ⟨W, hW⟩ : ∃ W, (w.alloc (mkObj x y z)).alloc (mkObj p q r) = W := ⟨_, rfl⟩
  simp only [hW] at b0 m0 m1
  change Code.wp _ _ _ _ ((w.alloc (mkObj x y z)).alloc (mkObj p q r))
  rw [hW]
  clear hW
  have d0 : ({ W with drawn := W.drawn + 1 } : World).cell? ⟨w.heap.size, 0, none⟩ = some (.int .i64 x) := m0.c0
  have d1 : ({ W with drawn := W.drawn + 1 } : World).cell? ⟨w.heap.size, 1, none⟩ = some (.int .i64 y) := m0.c1
  have d2 : ({ W with drawn := W.drawn + 1 } : World).cell? ⟨w.heap.size, 2, none⟩ = some (.int .i64 z) := m0.c2
  have d3 : ({ W with drawn := W.drawn + 1 } : World).cell? ⟨w.heap.size + 1, 0, none⟩ = some (.int .i64 p) := m1.c0
  have d4 : ({ W with drawn := W.drawn + 1 } : World).cell? ⟨w.heap.size + 1, 1, none⟩ = some (.int .i64 q) := m1.c1
  have d5 : ({ W with drawn := W.drawn + 1 } : World).cell? ⟨w.heap.size + 1, 2, none⟩ = some (.int .i64 r) := m1.c2
  have c0 := m0.c0
  have c1 := m0.c1
  have c2 := m0.c2
  have c3 := m1.c0
  have c4 := m1.c1
  have c5 := m1.c2
  go_still_tail 15, (by kernel_rfl)
  still_call (C0 _)
  repeat still_step
  still_call (C1 _)
  repeat still_step
  still_call (C2 _)
  repeat still_step
  refine wpStill_nil ?_
  clear d0 d1 d2 d3 d4 d5 m0 m1 c0 c1 c2 c3 c4 c5
  change wpList _ _ _ _ _ W.drew
  go_wp2_with fail
  have o0 : ((W.alloc (.cells #[.int .i64 u0, .int .i64 u1, .int .i64 u2] 3)).drew).cell? ⟨W.heap.size, 0, none⟩ = some (.int .i64 u0) := by go_simp
  have o1 : ((W.alloc (.cells #[.int .i64 u0, .int .i64 u1, .int .i64 u2] 3)).drew).cell? ⟨W.heap.size, 1, none⟩ = some (.int .i64 u1) := by go_simp
  have o2 : ((W.alloc (.cells #[.int .i64 u0, .int .i64 u1, .int .i64 u2] 3)).drew).cell? ⟨W.heap.size, 2, none⟩ = some (.int .i64 u2) := by go_simp
  have O := or3_any u0 u1 u2 _ W.heap.size 3 o0 o1 o2
  refine O.mono ?_
  rintro e w2 ⟨rfl, rfl⟩
  clear o0 o1 o2 O
  go_wp2
  go_ret
  exact ⟨rfl, (b0.alloc b0.size _).drew⟩


theorem cmpM_lt (x y z p q r : Int) : decide (cmpM x y z p q r < 0) = (if x = p then (if y = q then decide (z < r) else decide (y < q)) else decide (x < p)) := by
  unfold cmpM or3 Lib.compareInt
  repeat' split
  all_goals first
    | rfl
    | (simp; omega)
    | omega


set_option maxHeartbeats 400000 in
theorem refWithin_any (n lo hi : Int) (w : World) :
    Calls Tryz.prog 276 #[.int .i64 n, .int .i64 lo, .int .i64 hi] w fun e w' => e = .returned (.bool (wi n lo hi)) ∧ w' = w := by
  obtain ⟨v, hv⟩ : ∃ v, wi n lo hi = v := ⟨_, rfl⟩
  rw [hv]
  go_enter Tryz.func276, Tryz.ntmps276
  go_wp2
  all_goals go_ret
  all_goals refine ⟨?_, rfl⟩
  all_goals rw [← hv]; unfold wi
  all_goals simp [*]
  all_goals (intros; omega)


set_option maxRecDepth 100000 in
set_option maxHeartbeats 2000000 in
theorem earlier_any (x y z p q r : Int) (w : World) :
    Calls Tryz.prog 298 #[mk x y z, mk p q r] w fun e w' => e = .returned (.bool (decide (cmpM x y z p q r < 0))) ∧ Below w.heap.size w w' := by
  rw [cmpM_lt]
  obtain ⟨b0, m0, m1⟩ := mk2 w x y z p q r
  by_cases h1 : x = p
  · subst h1
    by_cases h2 : y = q
    · subst h2
      simp only [if_true]
      go_enter Tryz.func298, Tryz.ntmps298
      go_wp2
      all_goals first
        | (exfalso; simp_all; done)
        | (go_ret; exact ⟨rfl, b0⟩)
    · rw [if_pos rfl, if_neg h2]
      have j2 : (y == q) = false := by rw [beq_eq_false_iff_ne]; exact h2
      go_enter Tryz.func298, Tryz.ntmps298
      go_wp2
      all_goals first
        | (exfalso; simp_all; done)
        | (go_ret; exact ⟨rfl, b0⟩)
  · rw [if_neg h1]
    have j1 : (x == p) = false := by rw [beq_eq_false_iff_ne]; exact h1
    go_enter Tryz.func298, Tryz.ntmps298
    go_wp2
    all_goals first
      | (exfalso; simp_all; done)
      | (go_ret; exact ⟨rfl, b0⟩)


structure M3 where
  x : Int
  y : Int
  z : Int


def mq (M : List M3) (k : Nat) : M3 := M.getD k ⟨0, 0, 0⟩


def SlM (w : World) (v : Value) (M : List M3) : Prop := ∃ a cap, v = .slice a M.length cap ∧ M.length ≤ 9223372036854775807 ∧
  ∀ k, k < M.length → ∃ b off, a = some ⟨b, off, none⟩ ∧ w.cell? ⟨b, off + k * 3, none⟩ = some (.int .i64 (mq M k).x) ∧ w.cell? ⟨b, off + k * 3 + 1, none⟩ = some (.int .i64 (mq M k).y) ∧ w.cell? ⟨b, off + k * 3 + 2, none⟩ = some (.int .i64 (mq M k).z)


theorem SlM.keep {w w' : World} {v : Value} {M : List M3} (h : SlM w v M) (hb : Below w.heap.size w w') : SlM w' v M := by
  obtain ⟨a, cap, rfl, hl, hc⟩ := h
  refine ⟨a, cap, rfl, hl, fun k hk => ?_⟩
  obtain ⟨b, off, rfl, h0, h1, h2⟩ := hc k hk
  exact ⟨b, off, rfl, keep_cell hb h0, keep_cell hb h1, keep_cell hb h2⟩


def cmpK (M : List M3) (k : Nat) : Int := cmpM (mq M k).x (mq M k).y (mq M k).z (mq M (k + 1)).x (mq M (k + 1)).y (mq M (k + 1)).z

def risesM (M : List M3) : Bool := (List.range (M.length - 1)).all fun k => decide (cmpK M k < 0)


theorem risesM_true {M : List M3} (h : ∀ k, k + 1 < M.length → cmpK M k < 0) : risesM M = true := by
  unfold risesM
  rw [List.all_eq_true]
  intro k hk
  exact decide_eq_true (h k (by have := List.mem_range.1 hk; omega))


theorem risesM_false {M : List M3} (k : Nat) (hk : k + 1 < M.length) (h : 0 ≤ cmpK M k) : risesM M = false := by
  unfold risesM
  rw [List.all_eq_false]
  exact ⟨k, List.mem_range.2 (by omega), by simp; omega⟩


set_option maxRecDepth 100000 in
set_option maxHeartbeats 2000000 in
theorem risingM_any (v : Value) (M : List M3) (w : World) (h : SlM w v M) :
    Calls Tryz.prog 303 #[v, .func (.func 304) #[] #[]] w fun e w' => e = .returned (.bool (risesM M)) ∧ Below w.heap.size w w' := by
  obtain ⟨a, cap, rfl, hl, hc⟩ := h
  have HF := Lib.hid (risesM_false (M := M))
  have HA := Lib.hid (risesM_true (M := M))
  generalize risesM M = r at HA HF ⊢
  have HC := Lib.hid hc
  clear hc
  obtain ⟨n, hn⟩ : ∃ n, M.length = n := ⟨_, rfl⟩
  rw [hn] at HA HF HC hl ⊢
  clear hn
  go_enter Tryz.func303, Tryz.ntmps303
  go_wp2_with fail
  go_loopw [5] (fun i wr => ∃ k : Nat, (k + 1 ≤ n ∨ k = 0) ∧ i = .int .i64 (k + 1) ∧ Below w.heap.size w wr ∧ ∀ j, j < k → j + 1 < n → cmpK M j < 0) (fun i _ => n - (intOf i).toNat)
  case atStart => exact ⟨0, .inr rfl, rfl, Below.refl _ _, by simp⟩
  case round =>
    obtain ⟨k, hk, rfl, hbel, hall⟩ := hrel
    have HL := Lib.hid hall
    clear hall
    by_cases hlt : k + 1 < n
    · have j1 : (k : Int) + 1 < (n : Int) := by omega
      have e1 : IntKind.i64.wrap (k : Int) = k := wi64 _ (by omega)
      obtain ⟨b, off, rfl, c0, c1, c2⟩ := HC.out k (by omega)
      obtain ⟨b', off', hbb, d0, d1, d2⟩ := HC.out (k + 1) hlt
      obtain ⟨rfl, rfl⟩ : b = b' ∧ off = off' := by cases hbb; exact ⟨rfl, rfl⟩
      clear hbb
      replace c0 := keep_cell hbel c0
      replace c1 := keep_cell hbel c1
      replace c2 := keep_cell hbel c2
      replace d0 := keep_cell hbel d0
      replace d1 := keep_cell hbel d1
      replace d2 := keep_cell hbel d2
      have C := fun w => compareMarks_any (mq M k).x (mq M k).y (mq M k).z (mq M (k + 1)).x (mq M (k + 1)).y (mq M (k + 1)).z w
      obtain ⟨c, hcc⟩ : ∃ x, cmpM (mq M k).x (mq M k).y (mq M k).z (mq M (k + 1)).x (mq M (k + 1)).y (mq M (k + 1)).z = x := ⟨_, rfl⟩
      simp only [hcc] at C
      have HB : Hid (cmpK M k = c) := hcc
      clear hcc
      generalize (mq M k).x = x0 at c0 C
      generalize (mq M k).y = x1 at c1 C
      generalize (mq M k).z = x2 at c2 C
      generalize (mq M (k + 1)).x = y0 at d0 C
      generalize (mq M (k + 1)).y = y1 at d1 C
      generalize (mq M (k + 1)).z = y2 at d2 C
      have j2 : (k : Int) < (n : Int) := by omega
      have j3 : (0 : Int) ≤ (k : Int) := by omega
      have j4 : (0 : Int) ≤ (k : Int) + 1 := by omega
      have j5 : ((k : Int) + 1).toNat = k + 1 := by omega
      have G0 := grow_cell c0
      have G1 := grow_cell c1
      have G2 := grow_cell c2
      have G3 := grow_cell d0
      have G4 := grow_cell d1
      have G5 := grow_cell d2
      go_wp2_with fail
      refine wp_region_grow (by kernel_rfl) (by kernel_rfl) ?_
      repeat (go_big_quiet_step ((go_at_call 304; with_reducible exact calls_grow (C _))))
      refine wpQuiet_nil ?_
      rintro w2 ⟨x, hx⟩
      have hb : Below wr.heap.size wr w2 := by rw [hx]; exact x.b
      clear hx x G0 G1 G2 G3 G4 G5 c0 c1 c2 d0 d1 d2 C e1 j5 j2 j3 j4
      have hbel2 := keep_below hbel hb
      clear hb
      by_cases hc0 : (0 : Int) ≤ c
      · go_wp2
        go_ret
        exact ⟨by rw [HF.out k hlt (by rw [HB.out]; exact hc0)]; rfl, hbel2⟩
      · go_wp2
        refine ⟨⟨k + 1, by omega, by simp, hbel2, fun j hj hj1 => ?_⟩, by simp [intOf]; omega⟩
        rcases Nat.lt_or_ge j k with h | h
        · exact HL.out j h hj1
        · obtain rfl : j = k := by omega
          rw [HB.out]; omega
    · have j1 : ¬ (k : Int) + 1 < (n : Int) := by omega
      go_wp2
      go_ret
      exact ⟨by rw [HA.out (fun j hj => HL.out j (by omega) hj)]; rfl, hbel⟩


def M3.ok (lo hi : Int) (m : M3) : Bool := wi m.x lo hi && wi m.y 0 16 && wi m.z 1 16

def badM (lo hi : Int) (M : List M3) : Bool := (List.range M.length).any fun k => !(mq M k).ok lo hi

def vMs (lo hi : Int) (M : List M3) : Bool := decide (M.length ≤ 32) && !badM lo hi M && risesM M


theorem badM_true {lo hi : Int} {M : List M3} (k : Nat) (hk : k < M.length) (h : (mq M k).ok lo hi = false) : badM lo hi M = true := by
  unfold badM
  rw [List.any_eq_true]
  exact ⟨k, List.mem_range.2 hk, by simp [h]⟩


theorem badM_false {lo hi : Int} {M : List M3} (h : ∀ k, k < M.length → (mq M k).ok lo hi = true) : badM lo hi M = false := by
  unfold badM
  rw [List.any_eq_false]
  intro k hk
  simp [h k (List.mem_range.1 hk)]


set_option maxRecDepth 100000 in
set_option maxHeartbeats 2000000 in
theorem validMarks_any (v : Value) (lo hi : Int) (M : List M3) (w : World) (h : SlM w v M) :
    Calls Tryz.prog 281 #[v, spn lo hi] w fun e w' => e = .returned (.bool (vMs lo hi M)) ∧ Below w.heap.size w w' := by
  have b0 : Below w.heap.size w (w.alloc (spnObj lo hi)) := (Below.refl _ _).alloc (Nat.le_refl _) _
  have s0 := Sp.new w lo hi
  have RI := fun W hb => risingM_any v M W (h.keep (w' := W) hb)
  obtain ⟨a, cap, rfl, hl, hc⟩ := h
  unfold vMs
  have HA := Lib.hid (badM_true (lo := lo) (hi := hi) (M := M))
  have HF := Lib.hid (badM_false (lo := lo) (hi := hi) (M := M))
  have HC := Lib.hid hc
  clear hc
  generalize badM lo hi M = r at HA HF ⊢
  generalize risesM M = up at RI ⊢
  have HR := Lib.hid RI
  clear RI
  obtain ⟨n, hn⟩ : ∃ n, M.length = n := ⟨_, rfl⟩
  rw [hn] at HA HF HC HR hl ⊢
  clear hn
  by_cases h1 : 32 < n
  · have j1 : (32 : Int) < (n : Int) := by omega
    have HH : decide (n ≤ 32) = false := by simp; omega
    rw [HH]
    clear h1 HH
    go_enter Tryz.func281, Tryz.ntmps281
    go_wp2
    go_ret
    exact ⟨by simp, b0⟩
  · have j1 : ¬ (32 : Int) < (n : Int) := by omega
    have HH : decide (n ≤ 32) = true := by simp; omega
    rw [HH]
    clear h1 HH
    go_enter Tryz.func281, Tryz.ntmps281
    go_wp2_with fail
    obtain ⟨W0, hW0⟩ : ∃ W0, w.alloc (spnObj lo hi) = W0 := ⟨_, rfl⟩
    rw [hW0] at b0 s0
    change Code.wp _ _ _ _ (w.alloc (spnObj lo hi))
    rw [hW0]
    clear hW0
    go_loopw [12] (fun i wr => ∃ k : Nat, k ≤ n ∧ i = .int .i64 k ∧ Below w.heap.size w wr ∧ Sp wr w.heap.size lo hi ∧ ∀ j, j < k → (mq M j).ok lo hi = true) (fun i _ => n - (intOf i).toNat)
    case atStart => exact ⟨0, Nat.zero_le _, rfl, b0, s0, by simp⟩
    case round =>
      clear b0 s0 W0
      obtain ⟨k, hk, rfl, hb, sp, hall⟩ := hrel
      have HL := Lib.hid hall
      clear hall
      by_cases hlt : k < n
      · have jk : (k : Int) < (n : Int) := by omega
        obtain ⟨b, off, rfl, c0, c1, c2⟩ := HC.out k hlt
        replace c0 := keep_cell hb c0
        replace c1 := keep_cell hb c1
        replace c2 := keep_cell hb c2
        obtain ⟨x, hx⟩ : ∃ x, (mq M k).x = x := ⟨_, rfl⟩
        obtain ⟨y, hy⟩ : ∃ y, (mq M k).y = y := ⟨_, rfl⟩
        obtain ⟨z, hz⟩ : ∃ z, (mq M k).z = z := ⟨_, rfl⟩
        have hok : (mq M k).ok lo hi = (wi x lo hi && wi y 0 16 && wi z 1 16) := by rw [← hx, ← hy, ← hz]; rfl
        rw [hx] at c0
        rw [hy] at c1
        rw [hz] at c2
        clear hx hy hz
        have C1 := fun w => contains51_any lo hi x w
        have C2 := fun w => within_any y 0 16 w
        have C3 := fun w => within_any z 1 16 w
        generalize wi x lo hi = p1 at C1 hok
        generalize wi y 0 16 = p2 at C2 hok
        generalize wi z 1 16 = p3 at C3 hok
        have HOK := Lib.hid hok
        clear hok
        go_upto_region 6 with (fail)
        have sp' := sp.alloc (mkObj x y z)
        have mk' := Mk.new wr x y z
        have hb' := hb.alloc hb.size (mkObj x y z)
        obtain ⟨W1, hW1⟩ : ∃ W1, wr.alloc (mkObj x y z) = W1 := ⟨_, rfl⟩
        obtain ⟨B, hB⟩ : ∃ B, wr.heap.size = B := ⟨_, rfl⟩
        rw [hW1] at sp' mk' hb'
        change Code.wp _ _ _ _ (wr.alloc (mkObj x y z))
        rw [hW1]
        rw [hB] at mk' ⊢
        clear hW1 hB c0 c1 c2 sp hb
        have s0 := sp'.c0
        have s1 := sp'.c1
        have m0 := mk'.c0
        have m1 := mk'.c1
        have m2 := mk'.c2
        cases p1
        · have hr := HA.out k hlt (by rw [HOK.out]; rfl)
          subst hr
          go_wp2_with (first
            | (go_at_call 302; with_reducible refine (C1 _).mono ?_; rintro e w1 ⟨rfl, hb1⟩
               have n1 := keep_cell hb1 m1
               have n2 := keep_cell hb1 m2
               have hb2 := keep_below hb' hb1
               have sp2 := sp'.keep hb1
               clear m0 m1 m2 s0 s1 C1))
          go_ret
          exact ⟨by simp, hb2⟩
        · cases p2
          · have hr := HA.out k hlt (by rw [HOK.out]; rfl)
            subst hr
            go_wp2_with (first
            | (go_at_call 302; with_reducible refine (C1 _).mono ?_; rintro e w1 ⟨rfl, hb1⟩
               have n1 := keep_cell hb1 m1
               have n2 := keep_cell hb1 m2
               have hb2 := keep_below hb' hb1
               have sp2 := sp'.keep hb1
               clear m0 m1 m2 s0 s1 C1)
            | (go_at_call 279; with_reducible refine (C2 _).mono ?_; rintro e w2 ⟨rfl, rfl⟩))
            go_ret
            exact ⟨by simp, hb2⟩
          · cases p3
            · have hr := HA.out k hlt (by rw [HOK.out]; rfl)
              subst hr
              go_wp2_with (first
            | (go_at_call 302; with_reducible refine (C1 _).mono ?_; rintro e w1 ⟨rfl, hb1⟩
               have n1 := keep_cell hb1 m1
               have n2 := keep_cell hb1 m2
               have hb2 := keep_below hb' hb1
               have sp2 := sp'.keep hb1
               clear m0 m1 m2 s0 s1 C1)
            | (go_at_call 279; with_reducible refine (C2 _).mono ?_; rintro e w2 ⟨rfl, rfl⟩)
            | (go_at_call 279; with_reducible refine (C3 _).mono ?_; rintro e w2 ⟨rfl, rfl⟩))
              go_ret
              exact ⟨by simp, hb2⟩
            · go_wp2_with (first
            | (go_at_call 302; with_reducible refine (C1 _).mono ?_; rintro e w1 ⟨rfl, hb1⟩
               have n1 := keep_cell hb1 m1
               have n2 := keep_cell hb1 m2
               have hb2 := keep_below hb' hb1
               have sp2 := sp'.keep hb1
               clear m0 m1 m2 s0 s1 C1)
            | (go_at_call 279; with_reducible refine (C2 _).mono ?_; rintro e w2 ⟨rfl, rfl⟩)
            | (go_at_call 279; with_reducible refine (C3 _).mono ?_; rintro e w2 ⟨rfl, rfl⟩))
              refine ⟨⟨k + 1, by omega, by simp, hb2, sp2, fun j hj => ?_⟩, by simp [intOf]; omega⟩
              rcases Nat.lt_or_ge j k with h | h
              · exact HL.out j h
              · obtain rfl : j = k := by omega
                rw [HOK.out]; rfl
      · obtain rfl : k = n := by omega
        have hr := HF.out (fun j hj => HL.out j hj)
        have C := HR.out wr hb
        subst hr
        go_wp2_with (go_at_call 303; with_reducible refine C.mono ?_; rintro e w1 ⟨rfl, hb1⟩)
        go_ret
        exact ⟨by simp, keep_below hb hb1⟩


def M3.ok2 (m : M3) : Bool := wi m.y 0 16 && wi m.z 1 16

def badT (M : List M3) : Bool := (List.range M.length).any fun k => !(mq M k).ok2

def rMs (M : List M3) : Bool := decide (M.length ≤ 32) && !badT M && risesM M


theorem badT_true {M : List M3} (k : Nat) (hk : k < M.length) (h : (mq M k).ok2 = false) : badT M = true := by
  unfold badT
  rw [List.any_eq_true]
  exact ⟨k, List.mem_range.2 hk, by simp [h]⟩


theorem badT_false {M : List M3} (h : ∀ k, k < M.length → (mq M k).ok2 = true) : badT M = false := by
  unfold badT
  rw [List.any_eq_false]
  intro k hk
  simp [h k (List.mem_range.1 hk)]


set_option maxRecDepth 100000 in
set_option maxHeartbeats 4000000 in
theorem refMarks_any (v : Value) (M : List M3) (w : World) (h : SlM w v M) :
    Calls Tryz.prog 278 #[v] w fun e w' => e = .returned (.bool (rMs M)) ∧ Below w.heap.size w w' := by
  obtain ⟨a, cap, rfl, hl, hc⟩ := h
  unfold rMs
  have HA := Lib.hid (badT_true (M := M))
  have HF := Lib.hid (badT_false (M := M))
  have HU := Lib.hid (risesM_true (M := M))
  have HD := Lib.hid (risesM_false (M := M))
  have HC := Lib.hid hc
  clear hc
  generalize badT M = r at HA HF ⊢
  generalize risesM M = up at HU HD ⊢
  obtain ⟨n, hn⟩ : ∃ n, M.length = n := ⟨_, rfl⟩
  rw [hn] at HA HF HC HU HD hl ⊢
  clear hn
  by_cases h1 : 32 < n
  · have j1 : (32 : Int) < (n : Int) := by omega
    have HH : decide (n ≤ 32) = false := by simp; omega
    rw [HH]
    clear h1 HH
    go_enter Tryz.func278, Tryz.ntmps278
    go_wp2
    go_ret
    exact ⟨by simp, Below.refl _ _⟩
  · have j1 : ¬ (32 : Int) < (n : Int) := by omega
    have HH : decide (n ≤ 32) = true := by simp; omega
    rw [HH]
    clear h1 HH
    go_enter Tryz.func278, Tryz.ntmps278
    go_wp2_with fail
    go_loopw [3] (fun i wr => ∃ k : Nat, k ≤ n ∧ i = .int .i64 k ∧ Below w.heap.size w wr ∧ (∀ j, j < k → (mq M j).ok2 = true) ∧ ∀ j, j + 1 < k → cmpK M j < 0) (fun i _ => n - (intOf i).toNat)
    case atStart => exact ⟨0, Nat.zero_le _, rfl, Below.refl _ _, by simp, by simp⟩
    case round =>
      obtain ⟨k, hk, rfl, hb, hall, hris⟩ := hrel
      have HL := Lib.hid hall
      have HR := Lib.hid hris
      clear hall hris
      by_cases hlt : k < n
      · have jk : (k : Int) < (n : Int) := by omega
        obtain ⟨b, off, rfl, c0, c1, c2⟩ := HC.out k hlt
        replace c0 := keep_cell hb c0
        replace c1 := keep_cell hb c1
        replace c2 := keep_cell hb c2
        obtain ⟨x, hx⟩ : ∃ x, (mq M k).x = x := ⟨_, rfl⟩
        obtain ⟨y, hy⟩ : ∃ y, (mq M k).y = y := ⟨_, rfl⟩
        obtain ⟨z, hz⟩ : ∃ z, (mq M k).z = z := ⟨_, rfl⟩
        have hok : (mq M k).ok2 = (wi y 0 16 && wi z 1 16) := by rw [← hy, ← hz]; rfl
        rw [hx] at c0
        rw [hy] at c1
        rw [hz] at c2
        have HX := Lib.hid hx
        have HY := Lib.hid hy
        have HZ := Lib.hid hz
        clear hx hy hz
        have C2 := fun w => refWithin_any y 0 16 w
        have C3 := fun w => refWithin_any z 1 16 w
        generalize wi y 0 16 = p2 at C2 hok
        generalize wi z 1 16 = p3 at C3 hok
        have HOK := Lib.hid hok
        clear hok
        cases p2
        · have hr := HA.out k hlt (by rw [HOK.out]; rfl)
          subst hr
          have G1 := grow_cell c1
          go_wp2_with fail
          refine wp_region_grow (by kernel_rfl) (by kernel_rfl) ?_
          repeat (go_big_quiet_step ((go_at_call 276; with_reducible exact calls_grow_same (C2 _))))
          refine wpQuiet_nil ?_
          rintro w2 ⟨g, hg⟩
          have hb1 : Below wr.heap.size wr w2 := by rw [hg]; exact g.b
          clear hg g G1 c0 c1 c2
          go_wp2
          go_ret
          exact ⟨by simp, keep_below hb hb1⟩
        · cases p3
          · have hr := HA.out k hlt (by rw [HOK.out]; rfl)
            subst hr
            have G1 := grow_cell c1
            have G2 := grow_cell c2
            go_wp2_with fail
            refine wp_region_grow (by kernel_rfl) (by kernel_rfl) ?_
            repeat (go_big_quiet_step ((go_at_call 276; first | with_reducible exact calls_grow_same (C2 _) | with_reducible exact calls_grow_same (C3 _))))
            refine wpQuiet_nil ?_
            rintro w2 ⟨g, hg⟩
            have hb1 : Below wr.heap.size wr w2 := by rw [hg]; exact g.b
            clear hg g G1 G2 c0 c1 c2
            go_wp2
            go_ret
            exact ⟨by simp, keep_below hb hb1⟩
          · rcases k with _ | k
            · rw [show off + 0 * 3 = off by omega] at c0 c1 c2
              have G1 := grow_cell c1
              have G2 := grow_cell c2
              go_wp2_with fail
              refine wp_region_grow (by kernel_rfl) (by kernel_rfl) ?_
              repeat (go_big_quiet_step ((go_at_call 276; first | with_reducible exact calls_grow_same (C2 _) | with_reducible exact calls_grow_same (C3 _))))
              refine wpQuiet_nil ?_
              rintro w2 ⟨g, hg⟩
              have hb1 : Below wr.heap.size wr w2 := by rw [hg]; exact g.b
              clear hg g G1 G2 c0 c1 c2
              go_wp2
              refine ⟨⟨1, by omega, by simp, keep_below hb hb1, fun j hj => ?_, fun j hj => absurd hj (by omega)⟩, by simp [intOf]; omega⟩
              obtain rfl : j = 0 := by omega
              rw [HOK.out]; rfl
            · obtain ⟨b', off', hbb, d0, d1, d2⟩ := HC.out k (by omega)
              obtain ⟨rfl, rfl⟩ : b = b' ∧ off = off' := by cases hbb; exact ⟨rfl, rfl⟩
              clear hbb
              replace d0 := keep_cell hb d0
              replace d1 := keep_cell hb d1
              replace d2 := keep_cell hb d2
              have hck : cmpK M k = cmpM (mq M k).x (mq M k).y (mq M k).z x y z := by rw [← HX.out, ← HY.out, ← HZ.out]; rfl
              have C := fun w => earlier_any (mq M k).x (mq M k).y (mq M k).z x y z w
              rw [← hck] at C
              clear hck
              obtain ⟨c, hcc⟩ : ∃ c, cmpK M k = c := ⟨_, rfl⟩
              simp only [hcc] at C
              have HB := Lib.hid hcc
              clear hcc
              obtain ⟨e, he⟩ : ∃ e, decide (c < 0) = e := ⟨_, rfl⟩
              simp only [he] at C
              have HE := Lib.hid he
              clear he
              generalize (mq M k).x = y0 at d0 C
              generalize (mq M k).y = y1 at d1 C
              generalize (mq M k).z = y2 at d2 C
              have e1 : IntKind.i64.wrap (k : Int) = k := wi64 _ (by omega)
              have j0 : (0 : Int) < (k : Int) + 1 := by omega
              have j2 : (k : Int) < (n : Int) := by omega
              have j3 : (0 : Int) ≤ (k : Int) := by omega
              have j4 : (0 : Int) ≤ (k : Int) + 1 := by omega
              have j5 : ((k : Int) + 1).toNat = k + 1 := by omega
              have j6 : (k : Int) + 1 < (n : Int) := by omega
              clear jk
              have G0 := grow_cell c0
              have G1 := grow_cell c1
              have G2 := grow_cell c2
              have G3 := grow_cell d0
              have G4 := grow_cell d1
              have G5 := grow_cell d2
              go_wp2_with fail
              refine wp_region_grow (by kernel_rfl) (by kernel_rfl) ?_
              repeat (go_big_quiet_step ((first
                | (go_at_call 276; first | with_reducible exact calls_grow_same (C2 _) | with_reducible exact calls_grow_same (C3 _))
                | (go_at_call 298; with_reducible exact calls_grow (C _)))))
              refine wpQuiet_nil ?_
              rintro w2 ⟨g, hg⟩
              have hb1 : Below wr.heap.size wr w2 := by rw [hg]; exact g.b
              clear hg g G0 G1 G2 G3 G4 G5 c0 c1 c2 d0 d1 d2 e1 j0 j2 j3 j4 j5
              have hb2 := keep_below hb hb1
              clear hb hb1 C C2 C3
              cases e
              · have hd := HD.out k hlt (by rw [HB.out]; have := HE.out; simp at this; omega)
                subst hd
                go_wp2
                go_ret
                exact ⟨by simp, hb2⟩
              · go_wp2
                refine ⟨⟨k + 1 + 1, by omega, by simp, hb2, fun j hj => ?_, fun j hj => ?_⟩, by simp [intOf]; omega⟩
                · rcases Nat.lt_or_ge j (k + 1) with h | h
                  · exact HL.out j h
                  · obtain rfl : j = k + 1 := by omega
                    rw [HOK.out]; rfl
                · rcases Nat.lt_or_ge (j + 1) (k + 1) with h | h
                  · exact HR.out j h
                  · obtain rfl : j = k := by omega
                    rw [HB.out]; exact of_decide_eq_true HE.out
      · obtain rfl : k = n := by omega
        have hr := HF.out (fun j hj => HL.out j hj)
        have hu := HU.out (fun j hj => HR.out j hj)
        subst hr
        subst hu
        go_wp2
        go_ret
        exact ⟨by simp, hb⟩


abbrev gg (a b c d e : Int) : Value := .agg #[.int .i64 a, .int .i64 b, .int .i64 c, .int .i64 d, .int .i64 e]


def vG (a b c d e : Int) : Bool := decide (0 < a) && decide (a ≤ b) && decide (b ≤ 33554432) && decide (0 ≤ c) && decide (c ≤ d) && decide (d ≤ 33554432) && wi e (-1) 1


set_option maxRecDepth 100000 in
set_option maxHeartbeats 1000000 in
theorem validGauge_any (a b c d e : Int) (w : World) :
    Calls Tryz.prog 300 #[gg a b c d e] w fun x w' => x = .returned (.bool (vG a b c d e)) ∧ Below w.heap.size w w' := by
  have C := fun w => within_any e (-1) 1 w
  obtain ⟨v, hv⟩ : ∃ v, vG a b c d e = v := ⟨_, rfl⟩
  rw [hv]
  unfold vG at hv
  generalize wi e (-1) 1 = p at C hv
  have HV := Lib.hid hv
  clear hv
  go_enter Tryz.func300, Tryz.ntmps300
  go_wp2_with (go_at_call 279; with_reducible refine (C _).mono ?_; rintro e w1 ⟨rfl, rfl⟩)
  all_goals go_ret
  all_goals refine ⟨?_, (Below.refl _ _).alloc (Nat.le_refl _) _⟩
  all_goals rw [← HV.out]
  all_goals simp [*]
  all_goals (intros; omega)


set_option maxRecDepth 100000 in
set_option maxHeartbeats 1000000 in
theorem refValidGauge_any (a b c d e : Int) (w : World) :
    Calls Tryz.prog 297 #[gg a b c d e] w fun x w' => x = .returned (.bool (vG a b c d e)) ∧ Below w.heap.size w w' := by
  have C := fun w => refWithin_any e (-1) 1 w
  obtain ⟨v, hv⟩ : ∃ v, vG a b c d e = v := ⟨_, rfl⟩
  rw [hv]
  unfold vG at hv
  generalize wi e (-1) 1 = p at C hv
  have HV := Lib.hid hv
  clear hv
  go_enter Tryz.func297, Tryz.ntmps297
  go_wp2_with (go_at_call 276; with_reducible refine (C _).mono ?_; rintro e w1 ⟨rfl, rfl⟩)
  all_goals go_ret
  all_goals refine ⟨?_, (Below.refl _ _).alloc (Nat.le_refl _) _⟩
  all_goals rw [← HV.out]
  all_goals simp [*]
  all_goals (intros; omega)


set_option maxHeartbeats 1000000 in
theorem wrong64_any (a b c d e : Int) (w : World) :
    Calls Tryz.prog 299 #[gg a b c d e] w fun x w' => x = .returned (.bool (!vG a b c d e)) ∧ Below w.heap.size w w' := by
  have C := fun w => validGauge_any a b c d e w
  generalize vG a b c d e = c1 at C ⊢
  have b0 : Below w.heap.size w (w.alloc (.cells #[.int .i64 a, .int .i64 b, .int .i64 c, .int .i64 d, .int .i64 e] 102)) := (Below.refl _ _).alloc (Nat.le_refl _) _
  go_enter Tryz.func299, Tryz.ntmps299
  go_wp2_with fail
  refine (C _).mono ?_
  rintro e w1 ⟨rfl, hb⟩
  go_wp2
  go_ret
  exact ⟨rfl, keep_below b0 hb⟩


structure G5 where
  a : Int
  b : Int
  c : Int
  d : Int
  e : Int


def gz (G : List G5) (k : Nat) : G5 := G.getD k ⟨0, 0, 0, 0, 0⟩

def G5.ok (g : G5) : Bool := vG g.a g.b g.c g.d g.e


def SlG (w : World) (v : Value) (G : List G5) : Prop := ∃ a cap, v = .slice a G.length cap ∧ G.length ≤ 9223372036854775807 ∧
  ∀ k, k < G.length → ∃ b off, a = some ⟨b, off, none⟩ ∧ w.cell? ⟨b, off + k * 5, none⟩ = some (.int .i64 (gz G k).a) ∧ w.cell? ⟨b, off + k * 5 + 1, none⟩ = some (.int .i64 (gz G k).b) ∧ w.cell? ⟨b, off + k * 5 + 2, none⟩ = some (.int .i64 (gz G k).c) ∧
    w.cell? ⟨b, off + k * 5 + 3, none⟩ = some (.int .i64 (gz G k).d) ∧ w.cell? ⟨b, off + k * 5 + 4, none⟩ = some (.int .i64 (gz G k).e)


theorem SlG.keep {w w' : World} {v : Value} {G : List G5} (h : SlG w v G) (hb : Below w.heap.size w w') : SlG w' v G := by
  obtain ⟨a, cap, rfl, hl, hc⟩ := h
  refine ⟨a, cap, rfl, hl, fun k hk => ?_⟩
  obtain ⟨b, off, rfl, h0, h1, h2, h3, h4⟩ := hc k hk
  exact ⟨b, off, rfl, keep_cell hb h0, keep_cell hb h1, keep_cell hb h2, keep_cell hb h3, keep_cell hb h4⟩


def badG (G : List G5) : Bool := (List.range G.length).any fun k => !(gz G k).ok


theorem badG_true {G : List G5} (k : Nat) (hk : k < G.length) (h : (gz G k).ok = false) : badG G = true := by
  unfold badG
  rw [List.any_eq_true]
  exact ⟨k, List.mem_range.2 hk, by simp [h]⟩


theorem badG_false {G : List G5} (h : ∀ k, k < G.length → (gz G k).ok = true) : badG G = false := by
  unfold badG
  rw [List.any_eq_false]
  intro k hk
  simp [h k (List.mem_range.1 hk)]


set_option maxHeartbeats 2000000 in
theorem index100_any (v : Value) (G : List G5) (w : World) (h : SlG w v G) :
    Calls Tryz.prog 318 #[v, .func (.func 299) #[] #[]] w fun e w' => ∃ i : Int, decide (0 ≤ i) = badG G ∧ e = .returned (.int .i64 i) ∧ Below w.heap.size w w' := by
  obtain ⟨a, cap, rfl, hl, hc⟩ := h
  have HA := Lib.hid (badG_true (G := G))
  have HF := Lib.hid (badG_false (G := G))
  have HC := Lib.hid hc
  clear hc
  generalize badG G = r at HA HF ⊢
  obtain ⟨n, hn⟩ : ∃ n, G.length = n := ⟨_, rfl⟩
  rw [hn] at HA HF HC hl ⊢
  clear hn
  go_enter Tryz.func318, Tryz.ntmps318
  go_wp2_with fail
  go_loopw [8] (fun i wr => ∃ k : Nat, k ≤ n ∧ i = .int .i64 k ∧ Below w.heap.size w wr ∧ ∀ j, j < k → (gz G j).ok = true) (fun i _ => n - (intOf i).toNat)
  case atStart => exact ⟨0, Nat.zero_le _, rfl, Below.refl _ _, by simp⟩
  case round =>
    obtain ⟨k, hk, rfl, hb, hall⟩ := hrel
    have HL := Lib.hid hall
    clear hall
    by_cases hlt : k < n
    · have j1 : (k : Int) < (n : Int) := by omega
      obtain ⟨b, off, rfl, c0, c1, c2, c3, c4⟩ := HC.out k hlt
      have d0 := keep_cell hb c0
      have d1 := keep_cell hb c1
      have d2 := keep_cell hb c2
      have d3 := keep_cell hb c3
      have d4 := keep_cell hb c4
      have C := fun w => wrong64_any (gz G k).a (gz G k).b (gz G k).c (gz G k).d (gz G k).e w
      obtain ⟨bd, hbd⟩ : ∃ x, vG (gz G k).a (gz G k).b (gz G k).c (gz G k).d (gz G k).e = x := ⟨_, rfl⟩
      simp only [hbd] at C
      have HB : Hid ((gz G k).ok = bd) := hbd
      clear hbd c0 c1 c2 c3 c4
      generalize (gz G k).a = x0 at d0 C
      generalize (gz G k).b = x1 at d1 C
      generalize (gz G k).c = x2 at d2 C
      generalize (gz G k).d = x3 at d3 C
      generalize (gz G k).e = x4 at d4 C
      go_wp2_with fail
      refine (C _).mono ?_
      rintro e w1 ⟨rfl, hb1⟩
      have hb2 := keep_below hb hb1
      clear C d0 d1 d2 d3 d4 hb hb1
      cases bd
      · go_wp2
        go_ret
        exact ⟨(k : Nat), by rw [HA.out k hlt HB.out]; simp, rfl, hb2⟩
      · go_wp2
        refine ⟨⟨k + 1, by omega, by simp, hb2, fun j hj => ?_⟩, by simp [intOf]; omega⟩
        rcases Nat.lt_or_ge j k with h | h
        · exact HL.out j h
        · obtain rfl : j = k := by omega
          exact HB.out
    · obtain rfl : k = n := by omega
      go_wp2
      go_ret
      exact ⟨-1, by rw [HF.out (fun j hj => HL.out j hj)]; rfl, rfl, hb⟩


set_option maxHeartbeats 400000 in
theorem contains66_any (v : Value) (G : List G5) (w : World) (h : SlG w v G) :
    Calls Tryz.prog 301 #[v, .func (.func 299) #[] #[]] w fun e w' => e = .returned (.bool (badG G)) ∧ Below w.heap.size w w' := by
  have C := index100_any v G w h
  generalize badG G = r at C ⊢
  go_enter Tryz.func301, Tryz.ntmps301
  go_wp2_with fail
  refine C.mono ?_
  rintro e w1 ⟨i, hi, rfl, hb⟩
  clear C
  subst hi
  go_wp2
  go_ret
  exact ⟨rfl, hb⟩


def vGs (G : List G5) : Bool := wi G.length 3 24 && !badG G


set_option maxHeartbeats 400000 in
theorem validGauges_any (v : Value) (G : List G5) (w : World) (h : SlG w v G) :
    Calls Tryz.prog 280 #[v] w fun e w' => e = .returned (.bool (vGs G)) ∧ Below w.heap.size w w' := by
  have C1 := within_any G.length 3 24 w
  have C2 := contains66_any v G w h
  obtain ⟨a, cap, rfl, hl, -⟩ := h
  unfold vGs
  generalize badG G = r at C2 ⊢
  generalize wi G.length 3 24 = p at C1 ⊢
  generalize G.length = n at C1 C2 hl ⊢
  cases p
  · go_enter Tryz.func280, Tryz.ntmps280
    go_wp2_with (go_at_call 279; with_reducible refine C1.mono ?_; rintro e w1 ⟨rfl, rfl⟩)
    go_ret
    exact ⟨rfl, Below.refl _ _⟩
  · go_enter Tryz.func280, Tryz.ntmps280
    go_wp2_with (first
      | (go_at_call 279; with_reducible refine C1.mono ?_; rintro e w1 ⟨rfl, rfl⟩)
      | (go_at_call 301; with_reducible refine C2.mono ?_; rintro e w2 ⟨rfl, hb⟩))
    go_ret
    exact ⟨by simp, hb⟩


set_option maxHeartbeats 2000000 in
theorem refGauges_any (v : Value) (G : List G5) (w : World) (h : SlG w v G) :
    Calls Tryz.prog 277 #[v] w fun e w' => e = .returned (.bool (vGs G)) ∧ Below w.heap.size w w' := by
  obtain ⟨a, cap, rfl, hl, hc⟩ := h
  have hF : vGs G = (decide (3 ≤ G.length) && decide (G.length ≤ 24) && !badG G) := by
    unfold vGs
    congr 1
    unfold wi
    rw [Bool.eq_iff_iff]
    simp only [Bool.and_eq_true, decide_eq_true_eq]
    omega
  rw [hF]
  clear hF
  have HA := Lib.hid (badG_true (G := G))
  have HF := Lib.hid (badG_false (G := G))
  have HC := Lib.hid hc
  clear hc
  generalize badG G = r at HA HF ⊢
  obtain ⟨n, hn⟩ : ∃ n, G.length = n := ⟨_, rfl⟩
  rw [hn] at HA HF HC hl ⊢
  clear hn
  by_cases h1 : n < 3
  · have j1 : (n : Int) < 3 := by omega
    have HH : decide (3 ≤ n) = false := by simp; omega
    rw [HH]
    clear h1 HH
    go_enter Tryz.func277, Tryz.ntmps277
    go_wp2
    all_goals go_ret
    all_goals exact ⟨by simp, Below.refl _ _⟩
  · have j1 : ¬ (n : Int) < 3 := by omega
    by_cases h2 : 24 < n
    · have j2 : (24 : Int) < (n : Int) := by omega
      have HH : decide (n ≤ 24) = false := by simp; omega
      rw [HH]
      clear h1 h2 HH
      go_enter Tryz.func277, Tryz.ntmps277
      go_wp2
      all_goals go_ret
      all_goals exact ⟨by simp, Below.refl _ _⟩
    · have j2 : ¬ (24 : Int) < (n : Int) := by omega
      have hB : (decide (3 ≤ n) && decide (n ≤ 24) && !r) = !r := by
        have h3 : decide (3 ≤ n) = true := by simp; omega
        have h4 : decide (n ≤ 24) = true := by simp; omega
        rw [h3, h4]; rfl
      rw [hB]
      clear hB h1 h2
      go_enter Tryz.func277, Tryz.ntmps277
      go_wp2_with fail
      go_loopw [3] (fun i wr => ∃ k : Nat, k ≤ n ∧ i = .int .i64 k ∧ Below w.heap.size w wr ∧ ∀ j, j < k → (gz G j).ok = true) (fun i _ => n - (intOf i).toNat)
      case atStart => exact ⟨0, Nat.zero_le _, rfl, Below.refl _ _, by simp⟩
      case round =>
        obtain ⟨k, hk, rfl, hb, hall⟩ := hrel
        have HL := Lib.hid hall
        clear hall
        by_cases hlt : k < n
        · have jk : (k : Int) < (n : Int) := by omega
          obtain ⟨b, off, rfl, c0, c1, c2, c3, c4⟩ := HC.out k hlt
          have d0 := keep_cell hb c0
          have d1 := keep_cell hb c1
          have d2 := keep_cell hb c2
          have d3 := keep_cell hb c3
          have d4 := keep_cell hb c4
          have C := fun w => refValidGauge_any (gz G k).a (gz G k).b (gz G k).c (gz G k).d (gz G k).e w
          obtain ⟨bd, hbd⟩ : ∃ x, vG (gz G k).a (gz G k).b (gz G k).c (gz G k).d (gz G k).e = x := ⟨_, rfl⟩
          simp only [hbd] at C
          have HB : Hid ((gz G k).ok = bd) := hbd
          clear hbd c0 c1 c2 c3 c4
          generalize (gz G k).a = x0 at d0 C
          generalize (gz G k).b = x1 at d1 C
          generalize (gz G k).c = x2 at d2 C
          generalize (gz G k).d = x3 at d3 C
          generalize (gz G k).e = x4 at d4 C
          go_wp2_with fail
          refine (C _).mono ?_
          rintro e w1 ⟨rfl, hb1⟩
          have hb2 := keep_below hb hb1
          clear C d0 d1 d2 d3 d4 hb hb1
          cases bd
          · go_wp2
            go_ret
            exact ⟨by rw [HA.out k hlt HB.out]; rfl, hb2⟩
          · go_wp2
            refine ⟨⟨k + 1, by omega, by simp, hb2, fun j hj => ?_⟩, by simp [intOf]; omega⟩
            rcases Nat.lt_or_ge j k with h | h
            · exact HL.out j h
            · obtain rfl : j = k := by omega
              exact HB.out
        · obtain rfl : k = n := by omega
          go_wp2
          go_ret
          exact ⟨by rw [HF.out (fun j hj => HL.out j hj)]; rfl, hb⟩


abbrev pcs (id c r m s : Int) (vg vm : Value) : Value := .agg #[.int .i64 id, .int .i64 c, .int .i64 r, .int .i64 m, .int .i64 s, vg, vm]

abbrev pcsObj (id c r m s : Int) (vg vm : Value) : Obj := .cells #[.int .i64 id, .int .i64 c, .int .i64 r, .int .i64 m, .int .i64 s, vg, vm] 106


def vP (id c r m s : Int) (G : List G5) (M : List M3) : Bool := wi id 1 65535 && wi c 1 16 && wi r 1 16 && wi m 0 9999 && wi s (-64) 64 && vGs G && vMs 0 (G.length - 1) M


theorem pcs_new (w : World) (id c r m s : Int) (vg vm : Value) : (w.alloc (pcsObj id c r m s vg vm)).heap[w.heap.size]? = some (.cells #[.int .i64 id, .int .i64 c, .int .i64 r, .int .i64 m, .int .i64 s, vg, vm] 106 (0, 0)) := alloc_heap_new _ _


set_option maxRecDepth 100000 in
set_option maxHeartbeats 4000000 in
theorem validPiece_any (id c r m s : Int) (vg vm : Value) (G : List G5) (M : List M3) (w : World) (hG : SlG w vg G) (hM : SlM w vm M) :
    Calls Tryz.prog 240 #[pcs id c r m s vg vm] w fun e w' => e = .returned (.bool (vP id c r m s G M)) ∧ Below w.heap.size w w' := by
  have b0 : Below w.heap.size w (w.alloc (pcsObj id c r m s vg vm)) := (Below.refl _ _).alloc (Nat.le_refl _) _
  have hp := pcs_new w id c r m s vg vm
  have g5 : (w.alloc (pcsObj id c r m s vg vm)).cell? ⟨w.heap.size, 5, none⟩ = some vg := cell_of hp rfl
  have g6 : (w.alloc (pcsObj id c r m s vg vm)).cell? ⟨w.heap.size, 6, none⟩ = some vm := cell_of hp rfl
  have CG := validGauges_any vg G _ (hG.keep b0)
  obtain ⟨ga, gcap, rfl, hgl, -⟩ := hG
  have e1 : IntKind.i64.wrap ((G.length : Int) - 1) = (G.length : Int) - 1 := wi64 _ (by omega)
  have C0 := fun w => within_any id 1 65535 w
  have C1 := fun w => within_any c 1 16 w
  have C2 := fun w => within_any r 1 16 w
  have C3 := fun w => within_any m 0 9999 w
  have C4 := fun w => within_any s (-64) 64 w
  unfold vP
  generalize wi id 1 65535 = p0 at C0 ⊢
  generalize wi c 1 16 = p1 at C1 ⊢
  generalize wi r 1 16 = p2 at C2 ⊢
  generalize wi m 0 9999 = p3 at C3 ⊢
  generalize wi s (-64) 64 = p4 at C4 ⊢
  generalize vGs G = pg at CG ⊢
  generalize G.length = n at e1 hgl CG b0 g5 g6 hp ⊢
  clear hp
  cases p0
  · go_enter Tryz.func240, Tryz.ntmps240
    go_wp2_with (first
            | (go_at_call 279; with_reducible refine (C0 _).mono ?_; rintro e w1 ⟨rfl, rfl⟩)
            | (go_at_call 279; with_reducible refine (C1 _).mono ?_; rintro e w1 ⟨rfl, rfl⟩)
            | (go_at_call 279; with_reducible refine (C2 _).mono ?_; rintro e w1 ⟨rfl, rfl⟩)
            | (go_at_call 279; with_reducible refine (C3 _).mono ?_; rintro e w1 ⟨rfl, rfl⟩)
            | (go_at_call 279; with_reducible refine (C4 _).mono ?_; rintro e w1 ⟨rfl, rfl⟩)
            | (go_at_call 280; with_reducible refine CG.mono ?_; rintro e w2 ⟨rfl, hb⟩
               have q5 := keep_cell hb g5
               have q6 := keep_cell hb g6
               have b2 := keep_below b0 hb
               have CM := validMarks_any vm 0 ((n : Int) - 1) M w2 (hM.keep b2)
               clear CG)
            | (go_at_call 281; with_reducible refine CM.mono ?_; rintro e w3 ⟨rfl, hb'⟩
               have b3 := keep_below b2 hb'))
    go_ret
    exact ⟨by simp, b0⟩
  · have _t0 := True.intro
    cases p1
    · go_enter Tryz.func240, Tryz.ntmps240
      go_wp2_with (first
            | (go_at_call 279; with_reducible refine (C0 _).mono ?_; rintro e w1 ⟨rfl, rfl⟩)
            | (go_at_call 279; with_reducible refine (C1 _).mono ?_; rintro e w1 ⟨rfl, rfl⟩)
            | (go_at_call 279; with_reducible refine (C2 _).mono ?_; rintro e w1 ⟨rfl, rfl⟩)
            | (go_at_call 279; with_reducible refine (C3 _).mono ?_; rintro e w1 ⟨rfl, rfl⟩)
            | (go_at_call 279; with_reducible refine (C4 _).mono ?_; rintro e w1 ⟨rfl, rfl⟩)
            | (go_at_call 280; with_reducible refine CG.mono ?_; rintro e w2 ⟨rfl, hb⟩
               have q5 := keep_cell hb g5
               have q6 := keep_cell hb g6
               have b2 := keep_below b0 hb
               have CM := validMarks_any vm 0 ((n : Int) - 1) M w2 (hM.keep b2)
               clear CG)
            | (go_at_call 281; with_reducible refine CM.mono ?_; rintro e w3 ⟨rfl, hb'⟩
               have b3 := keep_below b2 hb'))
      go_ret
      exact ⟨by simp, b0⟩
    · have _t1 := True.intro
      cases p2
      · go_enter Tryz.func240, Tryz.ntmps240
        go_wp2_with (first
            | (go_at_call 279; with_reducible refine (C0 _).mono ?_; rintro e w1 ⟨rfl, rfl⟩)
            | (go_at_call 279; with_reducible refine (C1 _).mono ?_; rintro e w1 ⟨rfl, rfl⟩)
            | (go_at_call 279; with_reducible refine (C2 _).mono ?_; rintro e w1 ⟨rfl, rfl⟩)
            | (go_at_call 279; with_reducible refine (C3 _).mono ?_; rintro e w1 ⟨rfl, rfl⟩)
            | (go_at_call 279; with_reducible refine (C4 _).mono ?_; rintro e w1 ⟨rfl, rfl⟩)
            | (go_at_call 280; with_reducible refine CG.mono ?_; rintro e w2 ⟨rfl, hb⟩
               have q5 := keep_cell hb g5
               have q6 := keep_cell hb g6
               have b2 := keep_below b0 hb
               have CM := validMarks_any vm 0 ((n : Int) - 1) M w2 (hM.keep b2)
               clear CG)
            | (go_at_call 281; with_reducible refine CM.mono ?_; rintro e w3 ⟨rfl, hb'⟩
               have b3 := keep_below b2 hb'))
        go_ret
        exact ⟨by simp, b0⟩
      · have _t2 := True.intro
        cases p3
        · go_enter Tryz.func240, Tryz.ntmps240
          go_wp2_with (first
            | (go_at_call 279; with_reducible refine (C0 _).mono ?_; rintro e w1 ⟨rfl, rfl⟩)
            | (go_at_call 279; with_reducible refine (C1 _).mono ?_; rintro e w1 ⟨rfl, rfl⟩)
            | (go_at_call 279; with_reducible refine (C2 _).mono ?_; rintro e w1 ⟨rfl, rfl⟩)
            | (go_at_call 279; with_reducible refine (C3 _).mono ?_; rintro e w1 ⟨rfl, rfl⟩)
            | (go_at_call 279; with_reducible refine (C4 _).mono ?_; rintro e w1 ⟨rfl, rfl⟩)
            | (go_at_call 280; with_reducible refine CG.mono ?_; rintro e w2 ⟨rfl, hb⟩
               have q5 := keep_cell hb g5
               have q6 := keep_cell hb g6
               have b2 := keep_below b0 hb
               have CM := validMarks_any vm 0 ((n : Int) - 1) M w2 (hM.keep b2)
               clear CG)
            | (go_at_call 281; with_reducible refine CM.mono ?_; rintro e w3 ⟨rfl, hb'⟩
               have b3 := keep_below b2 hb'))
          go_ret
          exact ⟨by simp, b0⟩
        · have _t3 := True.intro
          cases p4
          · go_enter Tryz.func240, Tryz.ntmps240
            go_wp2_with (first
            | (go_at_call 279; with_reducible refine (C0 _).mono ?_; rintro e w1 ⟨rfl, rfl⟩)
            | (go_at_call 279; with_reducible refine (C1 _).mono ?_; rintro e w1 ⟨rfl, rfl⟩)
            | (go_at_call 279; with_reducible refine (C2 _).mono ?_; rintro e w1 ⟨rfl, rfl⟩)
            | (go_at_call 279; with_reducible refine (C3 _).mono ?_; rintro e w1 ⟨rfl, rfl⟩)
            | (go_at_call 279; with_reducible refine (C4 _).mono ?_; rintro e w1 ⟨rfl, rfl⟩)
            | (go_at_call 280; with_reducible refine CG.mono ?_; rintro e w2 ⟨rfl, hb⟩
               have q5 := keep_cell hb g5
               have q6 := keep_cell hb g6
               have b2 := keep_below b0 hb
               have CM := validMarks_any vm 0 ((n : Int) - 1) M w2 (hM.keep b2)
               clear CG)
            | (go_at_call 281; with_reducible refine CM.mono ?_; rintro e w3 ⟨rfl, hb'⟩
               have b3 := keep_below b2 hb'))
            go_ret
            exact ⟨by simp, b0⟩
          · have _t4 := True.intro
            cases pg
            · go_enter Tryz.func240, Tryz.ntmps240
              go_wp2_with (first
            | (go_at_call 279; with_reducible refine (C0 _).mono ?_; rintro e w1 ⟨rfl, rfl⟩)
            | (go_at_call 279; with_reducible refine (C1 _).mono ?_; rintro e w1 ⟨rfl, rfl⟩)
            | (go_at_call 279; with_reducible refine (C2 _).mono ?_; rintro e w1 ⟨rfl, rfl⟩)
            | (go_at_call 279; with_reducible refine (C3 _).mono ?_; rintro e w1 ⟨rfl, rfl⟩)
            | (go_at_call 279; with_reducible refine (C4 _).mono ?_; rintro e w1 ⟨rfl, rfl⟩)
            | (go_at_call 280; with_reducible refine CG.mono ?_; rintro e w2 ⟨rfl, hb⟩
               have q5 := keep_cell hb g5
               have q6 := keep_cell hb g6
               have b2 := keep_below b0 hb
               have CM := validMarks_any vm 0 ((n : Int) - 1) M w2 (hM.keep b2)
               clear CG)
            | (go_at_call 281; with_reducible refine CM.mono ?_; rintro e w3 ⟨rfl, hb'⟩
               have b3 := keep_below b2 hb'))
              go_ret
              exact ⟨by simp, b2⟩
            · go_enter Tryz.func240, Tryz.ntmps240
              go_wp2_with (first
            | (go_at_call 279; with_reducible refine (C0 _).mono ?_; rintro e w1 ⟨rfl, rfl⟩)
            | (go_at_call 279; with_reducible refine (C1 _).mono ?_; rintro e w1 ⟨rfl, rfl⟩)
            | (go_at_call 279; with_reducible refine (C2 _).mono ?_; rintro e w1 ⟨rfl, rfl⟩)
            | (go_at_call 279; with_reducible refine (C3 _).mono ?_; rintro e w1 ⟨rfl, rfl⟩)
            | (go_at_call 279; with_reducible refine (C4 _).mono ?_; rintro e w1 ⟨rfl, rfl⟩)
            | (go_at_call 280; with_reducible refine CG.mono ?_; rintro e w2 ⟨rfl, hb⟩
               have q5 := keep_cell hb g5
               have q6 := keep_cell hb g6
               have b2 := keep_below b0 hb
               have CM := validMarks_any vm 0 ((n : Int) - 1) M w2 (hM.keep b2)
               clear CG)
            | (go_at_call 281; with_reducible refine CM.mono ?_; rintro e w3 ⟨rfl, hb'⟩
               have b3 := keep_below b2 hb'))
              go_ret
              exact ⟨by simp, b3⟩


def badE (lo hi : Int) (M : List M3) : Bool := (List.range M.length).any fun k => !wi (mq M k).x lo hi


theorem badE_true {lo hi : Int} {M : List M3} (k : Nat) (hk : k < M.length) (h : wi (mq M k).x lo hi = false) : badE lo hi M = true := by
  unfold badE
  rw [List.any_eq_true]
  exact ⟨k, List.mem_range.2 hk, by simp [h]⟩


theorem badE_false {lo hi : Int} {M : List M3} (h : ∀ k, k < M.length → wi (mq M k).x lo hi = true) : badE lo hi M = false := by
  unfold badE
  rw [List.any_eq_false]
  intro k hk
  simp [h k (List.mem_range.1 hk)]


theorem bad_parts (lo hi : Int) (M : List M3) : badM lo hi M = (badE lo hi M || badT M) := by
  unfold badM badE badT
  induction List.range M.length with
  | nil => rfl
  | cons k l ih =>
    simp only [List.any_cons, ih]
    unfold M3.ok M3.ok2
    cases wi (mq M k).x lo hi <;> cases wi (mq M k).y 0 16 <;> cases wi (mq M k).z 1 16 <;> simp


theorem vMs_parts (lo hi : Int) (M : List M3) : vMs lo hi M = (!badE lo hi M && rMs M) := by
  unfold vMs rMs
  rw [bad_parts]
  cases badE lo hi M <;> cases badT M <;> simp


set_option maxRecDepth 100000 in
set_option maxHeartbeats 4000000 in
theorem refValidPiece_any (id c r m s : Int) (vg vm : Value) (G : List G5) (M : List M3) (w : World) (hG : SlG w vg G) (hM : SlM w vm M) :
    Calls Tryz.prog 239 #[pcs id c r m s vg vm] w fun e w' => e = .returned (.bool (vP id c r m s G M)) ∧ Below w.heap.size w w' := by
  have b0 : Below w.heap.size w (w.alloc (pcsObj id c r m s vg vm)) := (Below.refl _ _).alloc (Nat.le_refl _) _
  have hp := pcs_new w id c r m s vg vm
  have HGS := Lib.hid (fun W (hb : Below w.heap.size w W) => refGauges_any vg G W (hG.keep hb))
  have HM := Lib.hid (fun W (hb : Below w.heap.size w W) => refMarks_any vm M W (hM.keep hb))
  obtain ⟨ga, gcap, rfl, hgl, -⟩ := hG
  obtain ⟨ma, mcap, rfl, hml, hmc⟩ := hM
  have HMC := Lib.hid hmc
  clear hmc
  have e1 : IntKind.i64.wrap ((G.length : Int) - 1) = (G.length : Int) - 1 := wi64 _ (by omega)
  have HT := Lib.hid (badE_true (lo := 0) (hi := (G.length : Int) - 1) (M := M))
  have HF := Lib.hid (badE_false (lo := 0) (hi := (G.length : Int) - 1) (M := M))
  have C0 := fun w => refWithin_any id 1 65535 w
  have C1 := fun w => refWithin_any c 1 16 w
  have C2 := fun w => refWithin_any r 1 16 w
  have C3 := fun w => refWithin_any m 0 9999 w
  have C4 := fun w => refWithin_any s (-64) 64 w
  unfold vP
  rw [vMs_parts]
  generalize wi id 1 65535 = p0 at C0 ⊢
  generalize wi c 1 16 = p1 at C1 ⊢
  generalize wi r 1 16 = p2 at C2 ⊢
  generalize wi m 0 9999 = p3 at C3 ⊢
  generalize wi s (-64) 64 = p4 at C4 ⊢
  generalize badE 0 ((G.length : Int) - 1) M = bad at HT HF ⊢
  generalize rMs M = mk at HM ⊢
  generalize vGs G = pg at HGS ⊢
  generalize G.length = n at *
  generalize M.length = k2 at *
  go_enter Tryz.func239, Tryz.ntmps239
  go_wp2_with fail
  obtain ⟨W0, hW0⟩ : ∃ W0, w.alloc (pcsObj id c r m s (.slice ga n gcap) (.slice ma k2 mcap)) = W0 := ⟨_, rfl⟩
  rw [hW0] at b0 hp
  change Code.wp _ _ _ _ (w.alloc (pcsObj id c r m s (.slice ga n gcap) (.slice ma k2 mcap)))
  rw [hW0]
  clear hW0
  go_loopw [3] (fun i wr => ∃ k : Nat, k ≤ k2 ∧ i = .int .i64 k ∧ Below w.heap.size w wr ∧ wr.heap[w.heap.size]? = some (.cells #[.int .i64 id, .int .i64 c, .int .i64 r, .int .i64 m, .int .i64 s, .slice ga n gcap, .slice ma k2 mcap] 106 (0, 0)) ∧ ∀ j, j < k → wi (mq M j).x 0 ((n : Int) - 1) = true) (fun i _ => k2 - (intOf i).toNat)
  case atStart => exact ⟨0, Nat.zero_le _, rfl, b0, hp, by simp⟩
  case round =>
    clear b0 hp W0
    obtain ⟨k, hk, rfl, hb, hp, hall⟩ := hrel
    have HL := Lib.hid hall
    have g5 : wr.cell? ⟨w.heap.size, 5, none⟩ = some (.slice ga n gcap) := cell_of hp rfl
    have g6 : wr.cell? ⟨w.heap.size, 6, none⟩ = some (.slice ma k2 mcap) := cell_of hp rfl
    have hlt0 : w.heap.size < wr.heap.size := (Array.getElem?_eq_some_iff.1 hp).1
    have HP := Lib.hid hp
    clear hall
    by_cases hlt : k < k2
    · have jk : (k : Int) < (k2 : Int) := by omega
      obtain ⟨b, off, rfl, c0, -, -⟩ := HMC.out k hlt
      replace c0 := keep_cell hb c0
      obtain ⟨x, hx⟩ : ∃ x, (mq M k).x = x := ⟨_, rfl⟩
      rw [hx] at c0
      have HX := Lib.hid hx
      clear hx
      have C := fun w => refWithin_any x 0 ((n : Int) - 1) w
      obtain ⟨p, hpp⟩ : ∃ p, wi x 0 ((n : Int) - 1) = p := ⟨_, rfl⟩
      simp only [hpp] at C
      have HPP := Lib.hid hpp
      clear hpp
      have G0 := grow_cell c0
      have G5 := grow_cell g5
      have G6 := grow_cell g6
      go_wp2_with fail
      refine wp_region_grow (by kernel_rfl) (by kernel_rfl) ?_
      repeat (go_big_quiet_step ((go_at_call 276; with_reducible exact calls_grow_same (C _))))
      refine wpQuiet_nil ?_
      rintro w2 ⟨g, hg⟩
      have hb1 : Below wr.heap.size wr w2 := by rw [hg]; exact g.b
      clear hg g G0 G5 G6 c0 g5 g6
      have hb2 := keep_below hb hb1
      have hp2 := (hb1.block w.heap.size hlt0).trans HP.out
      clear hb hb1 C
      cases p
      · have hr := HT.out k hlt (by rw [HX.out]; exact HPP.out)
        subst hr
        go_wp2
        go_ret
        exact ⟨by simp, hb2⟩
      · go_wp2
        refine ⟨⟨k + 1, by omega, by simp, hb2, hp2, fun j hj => ?_⟩, by simp [intOf]; omega⟩
        rcases Nat.lt_or_ge j k with h | h
        · exact HL.out j h
        · obtain rfl : j = k := by omega
          rw [HX.out]; exact HPP.out
    · obtain rfl : k = k2 := by omega
      have hr := HF.out (fun j hj => HL.out j hj)
      subst hr
      have CG := HGS.out wr hb
      have i0 : wr.cell? ⟨w.heap.size, 0, none⟩ = some (.int .i64 id) := cell_of hp rfl
      have i1 : wr.cell? ⟨w.heap.size, 1, none⟩ = some (.int .i64 c) := cell_of hp rfl
      have i2 : wr.cell? ⟨w.heap.size, 2, none⟩ = some (.int .i64 r) := cell_of hp rfl
      have i3 : wr.cell? ⟨w.heap.size, 3, none⟩ = some (.int .i64 m) := cell_of hp rfl
      have i4 : wr.cell? ⟨w.heap.size, 4, none⟩ = some (.int .i64 s) := cell_of hp rfl
      clear hp
      cases p0
      · go_wp2_with (first
            | (go_at_call 276; with_reducible refine (C0 _).mono ?_; rintro e w1 ⟨rfl, rfl⟩)
            | (go_at_call 276; with_reducible refine (C1 _).mono ?_; rintro e w1 ⟨rfl, rfl⟩)
            | (go_at_call 276; with_reducible refine (C2 _).mono ?_; rintro e w1 ⟨rfl, rfl⟩)
            | (go_at_call 276; with_reducible refine (C3 _).mono ?_; rintro e w1 ⟨rfl, rfl⟩)
            | (go_at_call 276; with_reducible refine (C4 _).mono ?_; rintro e w1 ⟨rfl, rfl⟩)
            | (go_at_call 277; with_reducible refine CG.mono ?_; rintro e w2 ⟨rfl, hb1⟩
               have q6 := keep_cell hb1 g6
               have b2 := keep_below hb hb1
               have CM := HM.out w2 b2
               clear CG)
            | (go_at_call 278; with_reducible refine CM.mono ?_; rintro e w3 ⟨rfl, hb'⟩
               have b3 := keep_below b2 hb'))
        go_ret
        exact ⟨by simp, hb⟩
      · have _t0 := True.intro
        cases p1
        · go_wp2_with (first
            | (go_at_call 276; with_reducible refine (C0 _).mono ?_; rintro e w1 ⟨rfl, rfl⟩)
            | (go_at_call 276; with_reducible refine (C1 _).mono ?_; rintro e w1 ⟨rfl, rfl⟩)
            | (go_at_call 276; with_reducible refine (C2 _).mono ?_; rintro e w1 ⟨rfl, rfl⟩)
            | (go_at_call 276; with_reducible refine (C3 _).mono ?_; rintro e w1 ⟨rfl, rfl⟩)
            | (go_at_call 276; with_reducible refine (C4 _).mono ?_; rintro e w1 ⟨rfl, rfl⟩)
            | (go_at_call 277; with_reducible refine CG.mono ?_; rintro e w2 ⟨rfl, hb1⟩
               have q6 := keep_cell hb1 g6
               have b2 := keep_below hb hb1
               have CM := HM.out w2 b2
               clear CG)
            | (go_at_call 278; with_reducible refine CM.mono ?_; rintro e w3 ⟨rfl, hb'⟩
               have b3 := keep_below b2 hb'))
          go_ret
          exact ⟨by simp, hb⟩
        · have _t1 := True.intro
          cases p2
          · go_wp2_with (first
            | (go_at_call 276; with_reducible refine (C0 _).mono ?_; rintro e w1 ⟨rfl, rfl⟩)
            | (go_at_call 276; with_reducible refine (C1 _).mono ?_; rintro e w1 ⟨rfl, rfl⟩)
            | (go_at_call 276; with_reducible refine (C2 _).mono ?_; rintro e w1 ⟨rfl, rfl⟩)
            | (go_at_call 276; with_reducible refine (C3 _).mono ?_; rintro e w1 ⟨rfl, rfl⟩)
            | (go_at_call 276; with_reducible refine (C4 _).mono ?_; rintro e w1 ⟨rfl, rfl⟩)
            | (go_at_call 277; with_reducible refine CG.mono ?_; rintro e w2 ⟨rfl, hb1⟩
               have q6 := keep_cell hb1 g6
               have b2 := keep_below hb hb1
               have CM := HM.out w2 b2
               clear CG)
            | (go_at_call 278; with_reducible refine CM.mono ?_; rintro e w3 ⟨rfl, hb'⟩
               have b3 := keep_below b2 hb'))
            go_ret
            exact ⟨by simp, hb⟩
          · have _t2 := True.intro
            cases p3
            · go_wp2_with (first
            | (go_at_call 276; with_reducible refine (C0 _).mono ?_; rintro e w1 ⟨rfl, rfl⟩)
            | (go_at_call 276; with_reducible refine (C1 _).mono ?_; rintro e w1 ⟨rfl, rfl⟩)
            | (go_at_call 276; with_reducible refine (C2 _).mono ?_; rintro e w1 ⟨rfl, rfl⟩)
            | (go_at_call 276; with_reducible refine (C3 _).mono ?_; rintro e w1 ⟨rfl, rfl⟩)
            | (go_at_call 276; with_reducible refine (C4 _).mono ?_; rintro e w1 ⟨rfl, rfl⟩)
            | (go_at_call 277; with_reducible refine CG.mono ?_; rintro e w2 ⟨rfl, hb1⟩
               have q6 := keep_cell hb1 g6
               have b2 := keep_below hb hb1
               have CM := HM.out w2 b2
               clear CG)
            | (go_at_call 278; with_reducible refine CM.mono ?_; rintro e w3 ⟨rfl, hb'⟩
               have b3 := keep_below b2 hb'))
              go_ret
              exact ⟨by simp, hb⟩
            · have _t3 := True.intro
              cases p4
              · go_wp2_with (first
            | (go_at_call 276; with_reducible refine (C0 _).mono ?_; rintro e w1 ⟨rfl, rfl⟩)
            | (go_at_call 276; with_reducible refine (C1 _).mono ?_; rintro e w1 ⟨rfl, rfl⟩)
            | (go_at_call 276; with_reducible refine (C2 _).mono ?_; rintro e w1 ⟨rfl, rfl⟩)
            | (go_at_call 276; with_reducible refine (C3 _).mono ?_; rintro e w1 ⟨rfl, rfl⟩)
            | (go_at_call 276; with_reducible refine (C4 _).mono ?_; rintro e w1 ⟨rfl, rfl⟩)
            | (go_at_call 277; with_reducible refine CG.mono ?_; rintro e w2 ⟨rfl, hb1⟩
               have q6 := keep_cell hb1 g6
               have b2 := keep_below hb hb1
               have CM := HM.out w2 b2
               clear CG)
            | (go_at_call 278; with_reducible refine CM.mono ?_; rintro e w3 ⟨rfl, hb'⟩
               have b3 := keep_below b2 hb'))
                go_ret
                exact ⟨by simp, hb⟩
              · have _t4 := True.intro
                cases pg
                · go_wp2_with (first
            | (go_at_call 276; with_reducible refine (C0 _).mono ?_; rintro e w1 ⟨rfl, rfl⟩)
            | (go_at_call 276; with_reducible refine (C1 _).mono ?_; rintro e w1 ⟨rfl, rfl⟩)
            | (go_at_call 276; with_reducible refine (C2 _).mono ?_; rintro e w1 ⟨rfl, rfl⟩)
            | (go_at_call 276; with_reducible refine (C3 _).mono ?_; rintro e w1 ⟨rfl, rfl⟩)
            | (go_at_call 276; with_reducible refine (C4 _).mono ?_; rintro e w1 ⟨rfl, rfl⟩)
            | (go_at_call 277; with_reducible refine CG.mono ?_; rintro e w2 ⟨rfl, hb1⟩
               have q6 := keep_cell hb1 g6
               have b2 := keep_below hb hb1
               have CM := HM.out w2 b2
               clear CG)
            | (go_at_call 278; with_reducible refine CM.mono ?_; rintro e w3 ⟨rfl, hb'⟩
               have b3 := keep_below b2 hb'))
                  go_ret
                  exact ⟨by simp, b2⟩
                · go_wp2_with (first
            | (go_at_call 276; with_reducible refine (C0 _).mono ?_; rintro e w1 ⟨rfl, rfl⟩)
            | (go_at_call 276; with_reducible refine (C1 _).mono ?_; rintro e w1 ⟨rfl, rfl⟩)
            | (go_at_call 276; with_reducible refine (C2 _).mono ?_; rintro e w1 ⟨rfl, rfl⟩)
            | (go_at_call 276; with_reducible refine (C3 _).mono ?_; rintro e w1 ⟨rfl, rfl⟩)
            | (go_at_call 276; with_reducible refine (C4 _).mono ?_; rintro e w1 ⟨rfl, rfl⟩)
            | (go_at_call 277; with_reducible refine CG.mono ?_; rintro e w2 ⟨rfl, hb1⟩
               have q6 := keep_cell hb1 g6
               have b2 := keep_below hb hb1
               have CM := HM.out w2 b2
               clear CG)
            | (go_at_call 278; with_reducible refine CM.mono ?_; rintro e w3 ⟨rfl, hb'⟩
               have b3 := keep_below b2 hb'))
                  go_ret
                  exact ⟨by simp, b3⟩


end Go.Proofs.YtcgmmfcphfkdhaaGreat
