/- Walks: meet. -/
import Derived.Test.YtkmcboincjohlaaGreatGrLA
import Derived.Lib.Hide
import Derived.RegionTactic
import Derived.Deep.Cut
import Derived.OwnWalk
import Derived.Deep.CutBlock
import Derived.Deep.MidRow
namespace Go.Proofs.YtkmcboincjohlaaGreat
open Go Go.RowKit Go.Proofs

structure Pts (w : World) (ax ay bx b_y cx cy dx dy : Int) (w' : World) : Prop where
  b : Below w.heap.size w w'
  n : w.heap.size + 4 ≤ w'.heap.size
  c0 : w'.cell? ⟨w.heap.size, 0, none⟩ = some (.int .i64 ax)
  c1 : w'.cell? ⟨w.heap.size, 1, none⟩ = some (.int .i64 ay)
  c2 : w'.cell? ⟨w.heap.size + 1, 0, none⟩ = some (.int .i64 bx)
  c3 : w'.cell? ⟨w.heap.size + 1, 1, none⟩ = some (.int .i64 b_y)
  c4 : w'.cell? ⟨w.heap.size + 1 + 1, 0, none⟩ = some (.int .i64 cx)
  c5 : w'.cell? ⟨w.heap.size + 1 + 1, 1, none⟩ = some (.int .i64 cy)
  c6 : w'.cell? ⟨w.heap.size + 1 + 1 + 1, 0, none⟩ = some (.int .i64 dx)
  c7 : w'.cell? ⟨w.heap.size + 1 + 1 + 1, 1, none⟩ = some (.int .i64 dy)

variable {w w1 w2 : World} {ax ay bx b_y cx cy dx dy : Int}

theorem Pts.keep (h : Pts w ax ay bx b_y cx cy dx dy w1) (hb : Below w1.heap.size w1 w2) : Pts w ax ay bx b_y cx cy dx dy w2 :=
  ⟨keep_below h.b hb, Nat.le_trans h.n hb.size, keep_cell hb h.c0, keep_cell hb h.c1, keep_cell hb h.c2, keep_cell hb h.c3, keep_cell hb h.c4, keep_cell hb h.c5, keep_cell hb h.c6, keep_cell hb h.c7⟩

theorem Pts.start (w : World) (ax ay bx b_y cx cy dx dy : Int) : Pts w ax ay bx b_y cx cy dx dy ((((w.alloc (ptObj ax ay)).alloc (ptObj bx b_y)).alloc (ptObj cx cy)).alloc (ptObj dx dy)) := by
  obtain ⟨b, c0, c1, c2, c3, c4, c5, c6, c7⟩ := pts4 w ax ay bx b_y cx cy dx dy
  refine ⟨((((Below.refl _ _).alloc (by simp) _).alloc (by simp) _).alloc (by simp; omega) _).alloc (by simp; omega) _, by simp, c0, c1, c2, c3, c4, c5, c6, c7⟩

/-- The four ends, each with the ends of the other segment. -/
def ends (ax ay bx b_y cx cy dx dy : Int) : List Value :=
  [.int .i64 ax, .int .i64 ay, .int .i64 cx, .int .i64 cy, .int .i64 dx, .int .i64 dy, .int .i64 bx, .int .i64 b_y, .int .i64 cx, .int .i64 cy, .int .i64 dx, .int .i64 dy,
   .int .i64 cx, .int .i64 cy, .int .i64 ax, .int .i64 ay, .int .i64 bx, .int .i64 b_y, .int .i64 dx, .int .i64 dy, .int .i64 ax, .int .i64 ay, .int .i64 bx, .int .i64 b_y]

def scanStep : Option (Int × Int × Int) → Bool × Int × Int → Option (Int × Int × Int)
  | none, _ => none
  | some s, (false, _, _) => some s
  | some (f, x, y), (true, px, py) => if f = 0 then some (1, px, py) else if x = px ∧ y = py then some (f, x, y) else none

def scanUpto (l : List (Bool × Int × Int)) (k : Nat) : Option (Int × Int × Int) := (l.take k).foldl scanStep (some (0, 0, 0))

/-- The four ends: whether each lies on the other segment. -/
def items (ax ay bx b_y cx cy dx dy : Int) : List (Bool × Int × Int) :=
  [(onSeg ax ay cx cy dx dy, ax, ay), (onSeg bx b_y cx cy dx dy, bx, b_y), (onSeg cx cy ax ay bx b_y, cx, cy), (onSeg dx dy ax ay bx b_y, dx, dy)]

theorem range_new (w : World) (l : List Value) (t : TypeId) : (w.alloc (.cells l.toArray t)).rangeAt w.heap.size 0 l := by
  intro j v hv
  have h1 := heap_alloc_last w (.cells l.toArray t)
  unfold World.cell?
  simp only [h1, Nat.zero_add]
  simpa using hv

theorem range_keep {w w' : World} {b o : Nat} {cs : List Value} (hb : Below w.heap.size w w') (h : w.rangeAt b o cs) : w'.rangeAt b o cs :=
  fun j v hv => keep_cell hb (h j v hv)

theorem scanUpto_succ {l : List (Bool × Int × Int)} {k : Nat} {x : Bool × Int × Int} (h : l[k]? = some x) : scanUpto l (k + 1) = scanStep (scanUpto l k) x := by
  unfold scanUpto
  rw [List.take_add_one, h, List.foldl_append]
  rfl

theorem scanUpto_none {l : List (Bool × Int × Int)} {k : Nat} (h : scanUpto l k = none) : scanUpto l (k + 1) = none := by
  cases hl : l[k]? with
  | none =>
    unfold scanUpto at *
    rw [List.take_add_one, hl]
    simpa using h
  | some x => rw [scanUpto_succ hl, h]; rfl

/-- How two segments meet. -/
def meetS (ax ay bx b_y cx cy dx dy : Int) : Int :=
  if (parted ax ay bx b_y cx cy dx dy && parted cx cy dx dy ax ay bx b_y) = true then 2
  else match scanUpto (items ax ay bx b_y cx cy dx dy) 4 with
    | none => 3
    | some (f, _, _) => f

theorem meetS_none {ax ay bx b_y cx cy dx dy : Int} (hp : (parted ax ay bx b_y cx cy dx dy && parted cx cy dx dy ax ay bx b_y) = false) (h : scanUpto (items ax ay bx b_y cx cy dx dy) 4 = none) : meetS ax ay bx b_y cx cy dx dy = 3 := by
  unfold meetS; rw [hp, h]; rfl

theorem meetS_some {ax ay bx b_y cx cy dx dy f x y : Int} (hp : (parted ax ay bx b_y cx cy dx dy && parted cx cy dx dy ax ay bx b_y) = false) (h : scanUpto (items ax ay bx b_y cx cy dx dy) 4 = some (f, x, y)) : meetS ax ay bx b_y cx cy dx dy = f := by
  unfold meetS; rw [hp, h]; rfl

abbrev boxObj (x y u v p q : Int) : Obj := .cells #[.int .i64 x, .int .i64 y, .int .i64 u, .int .i64 v, .int .i64 p, .int .i64 q] 208

theorem box_newP (w : World) (x y u v p q : Int) : (w.alloc (boxObj x y u v p q)).cell? ⟨w.heap.size, 0, none⟩ = some (.int .i64 x) ∧ (w.alloc (boxObj x y u v p q)).cell? ⟨w.heap.size, 1, none⟩ = some (.int .i64 y) := by
  constructor <;> go_simp

theorem frozen_old (w : World) (o : Obj) {b k : Nat} {v : Value} (h : w.cell? ⟨b, k, none⟩ = some v) (hf : w.frozen? ⟨b, k, none⟩ = false) : (w.alloc o).frozen? ⟨b, k, none⟩ = false :=
  keep_frozen ((Below.refl _ _).alloc (Nat.le_refl _) _) h hf

theorem end0 (ax ay bx b_y cx cy dx dy : Int) (w : World) : (Instr.index 209 (.agg (ends ax ay bx b_y cx cy dx dy).toArray) (.int .i64 0)).run Tryz.prog w = .ok (.agg #[.int .i64 ax, .int .i64 ay, .int .i64 cx, .int .i64 cy, .int .i64 dx, .int .i64 dy]) w := by kernel_rfl

theorem end1 (ax ay bx b_y cx cy dx dy : Int) (w : World) : (Instr.index 209 (.agg (ends ax ay bx b_y cx cy dx dy).toArray) (.int .i64 1)).run Tryz.prog w = .ok (.agg #[.int .i64 bx, .int .i64 b_y, .int .i64 cx, .int .i64 cy, .int .i64 dx, .int .i64 dy]) w := by kernel_rfl

theorem end2 (ax ay bx b_y cx cy dx dy : Int) (w : World) : (Instr.index 209 (.agg (ends ax ay bx b_y cx cy dx dy).toArray) (.int .i64 2)).run Tryz.prog w = .ok (.agg #[.int .i64 cx, .int .i64 cy, .int .i64 ax, .int .i64 ay, .int .i64 bx, .int .i64 b_y]) w := by kernel_rfl

theorem end3 (ax ay bx b_y cx cy dx dy : Int) (w : World) : (Instr.index 209 (.agg (ends ax ay bx b_y cx cy dx dy).toArray) (.int .i64 3)).run Tryz.prog w = .ok (.agg #[.int .i64 dx, .int .i64 dy, .int .i64 ax, .int .i64 ay, .int .i64 bx, .int .i64 b_y]) w := by kernel_rfl

set_option maxRecDepth 100000 in
set_option maxHeartbeats 2000000 in
theorem meet_any (ax ay bx b_y cx cy dx dy : Int) (w : World) (h1 : Small ax) (h2 : Small ay) (h3 : Small bx) (h4 : Small b_y) (h5 : Small cx) (h6 : Small cy) (h7 : Small dx) (h8 : Small dy) :
    Calls Tryz.prog 91 #[pt ax ay, pt bx b_y, pt cx cy, pt dx dy] w fun e w' => e = .returned (.int .i64 (meetS ax ay bx b_y cx cy dx dy)) ∧ Below w.heap.size w w' := by
  obtain ⟨its, hits⟩ : ∃ its, items ax ay bx b_y cx cy dx dy = its := ⟨_, rfl⟩
  have HI := Lib.hid hits
  obtain ⟨m, hm⟩ : ∃ m, meetS ax ay bx b_y cx cy dx dy = m := ⟨_, rfl⟩
  rw [hm]
  have HM0 : Hid ((parted ax ay bx b_y cx cy dx dy && parted cx cy dx dy ax ay bx b_y) = false → (∀ f x y, scanUpto its 4 = some (f, x, y) → m = f) ∧ (scanUpto its 4 = none → m = 3)) := by
    refine Lib.hid fun hp => ?_
    rw [← hm, ← hits]
    exact ⟨fun f x y h => meetS_some hp h, fun h => meetS_none hp h⟩
  have HC : Hid ((parted ax ay bx b_y cx cy dx dy && parted cx cy dx dy ax ay bx b_y) = true → m = 2) := Lib.hid fun hp => by rw [← hm]; unfold meetS; rw [if_pos hp]
  clear hm hits
  go_enter Tryz.func91, Tryz.ntmps91
  go_wp2_with fail
  refine (parted_any _ _ _ _ _ _ _ _ _ (by assumption) (by assumption) (by assumption) (by assumption) (by assumption) (by assumption) (by assumption) (by assumption)).mono ?_
  rintro e w1 ⟨rfl, hb⟩
  have hP := (Pts.start w ax ay bx b_y cx cy dx dy).keep hb
  clear hb
  obtain ⟨_, _, c0, c1, c2, c3, c4, c5, c6, c7⟩ := id hP
  obtain ⟨p, hp⟩ : ∃ p, parted ax ay bx b_y cx cy dx dy = p := ⟨_, rfl⟩
  rw [hp]
  cases p
  · have HM := Lib.hid (HM0.out (by rw [hp]; rfl))
    clear HM0 HC
    go_upto_region 3 with (fail)
    go_step
    go_step
    go_step
    go_step
    go_step
    go_step
    go_step
    go_step
    go_step
    go_step
    go_step
    go_step
    go_step
    go_step
    go_step
    go_step
    go_step
    go_step
    go_step
    go_step
    go_step
    go_step
    go_step
    go_step
    go_step
    go_step
    go_step
    go_step
    go_step
    go_step
    go_step
    go_step
    go_step
    go_step
    go_step
    go_step
    go_step
    go_step
    go_step
    go_step
    go_step
    go_step
    go_step
    go_step
    go_step
    go_step
    go_step
    go_step
    go_step
    go_step
    go_step
    go_step
    go_step
    go_step
    go_step
    refine wpList_store_new rfl 209 _ _ rfl _ rfl rfl (by kernel_rfl) rfl (by simp [Value.oneCell']) ?_
    have hr : (w1.alloc (.cells (ends ax ay bx b_y cx cy dx dy).toArray 209)).rangeAt w1.heap.size 0 (ends ax ay bx b_y cx cy dx dy) := range_new _ _ _
    have hP2 := hP.keep ((Below.refl _ w1).alloc (Nat.le_refl _) (.cells (ends ax ay bx b_y cx cy dx dy).toArray 209))
    clear hP c0 c1 c2 c3 c4 c5 c6 c7 hp
    change wpList _ _ _ _ _ (w1.alloc (.cells (ends ax ay bx b_y cx cy dx dy).toArray 209))
    obtain ⟨w2, hw2⟩ : ∃ w2, w1.alloc (.cells (ends ax ay bx b_y cx cy dx dy).toArray 209) = w2 := ⟨_, rfl⟩
    have hz : w2.heap.size = w1.heap.size + 1 := by rw [← hw2]; simp
    rw [hw2] at hr hP2 ⊢
    clear hw2
    obtain ⟨r, hr0⟩ : ∃ r, w1.heap.size = r := ⟨_, rfl⟩
    have hwr : w.heap.size ≤ r := by omega
    rw [hr0] at hr hz ⊢
    go_upto_region 6 with (fail)
    have hsz : (w2.alloc (ptObj 0 0)).heap.size = r + 2 := by simp [hz]
    have hr3 := range_keep ((Below.refl _ w2).alloc (Nat.le_refl _) (ptObj 0 0)) hr
    have hP3 := hP2.keep ((Below.refl _ w2).alloc (Nat.le_refl _) (ptObj 0 0))
    have hf : (w2.alloc (ptObj 0 0)).frozen? ⟨r + 1, 0, none⟩ = false ∧ (w2.alloc (ptObj 0 0)).frozen? ⟨r + 1, 1, none⟩ = false := by rw [← hz]; constructor <;> go_simp
    have hs := pt_new w2 0 0
    rw [hz] at hs
    obtain ⟨w3, hw3⟩ : ∃ w3, w2.alloc (ptObj 0 0) = w3 := ⟨_, rfl⟩
    rw [hw3] at hr3 hP3 hf hs hsz
    change Code.wp _ _ _ _ (w2.alloc (ptObj 0 0))
    rw [hw3]
    clear hr hP2 hw3 hz hr0
    go_step
    refine wpList_load_mid rfl 209 _ rfl r 0 rfl (ends ax ay bx b_y cx cy dx dy) _ hr3 Tryz.underlying209 rfl (by kernel_rfl) ?_
    go_wp2_with fail
    go_loopw [10, 44] (fun f i wr => ∃ k : Nat, k ≤ 4 ∧ i = .int .i64 k ∧ ∃ fo sx sy : Int, f = .int .i64 fo ∧ scanUpto its k = some (fo, sx, sy) ∧ (fo = 0 ∨ fo = 1) ∧ Below w.heap.size w wr ∧ r + 2 ≤ wr.heap.size ∧
      wr.cell? ⟨r + 1, 0, none⟩ = some (.int .i64 sx) ∧ wr.cell? ⟨r + 1, 1, none⟩ = some (.int .i64 sy) ∧ wr.frozen? ⟨r + 1, 0, none⟩ = false ∧ wr.frozen? ⟨r + 1, 1, none⟩ = false) (fun _ i _ => 4 - (intOf i).toNat)
    case atStart => exact ⟨0, by omega, rfl, 0, 0, 0, rfl, rfl, .inl rfl, hP3.b, Nat.le_of_eq hsz.symm, hs.1, hs.2, hf.1, hf.2⟩
    case round =>
      clear hP3 hr3 hf hs hsz
      obtain ⟨k, hk, rfl, fo, sx, sy, rfl, hsc, hfo, hbel, hz, g0, g1, f0, f1⟩ := hrel
      have H := Lib.hid hsc
      clear hsc
      have hk4 : k = 4 ∨ k = 0 ∨ k = 1 ∨ k = 2 ∨ k = 3 := by omega
      rcases hk4 with rfl | rfl | rfl | rfl | rfl
      · go_wp2
        go_ret
        exact ⟨ret_intP (HM.out.1 _ _ _ H.out).symm, hbel⟩
      · have hix := end0 ax ay bx b_y cx cy dx dy
        have S := Lib.hid (scanUpto_succ (l := its) (k := 0) (by rw [← HI.out]; rfl))
        rcases hfo with rfl | rfl
        all_goals
          go_wp2_with fail
          refine (onSegment_any _ _ _ _ _ _ _ (by assumption) (by assumption) (by assumption) (by assumption) (by assumption) (by assumption)).mono ?_
          rintro e w4 ⟨rfl, hb⟩
          have n0 := box_newP wr ax ay cx cy dx dy
          have m0 := keep_cell hb n0.1
          have m1 := keep_cell hb n0.2
          have a0 := keep_frozen hb (pt_old _ _ g0) (frozen_old wr (boxObj ax ay cx cy dx dy) g0 f0)
          have a1 := keep_frozen hb (pt_old _ _ g1) (frozen_old wr (boxObj ax ay cx cy dx dy) g1 f1)
          replace g0 := keep_cell hb (pt_old _ _ g0)
          replace g1 := keep_cell hb (pt_old _ _ g1)
          replace hbel := keep_below (hbel.alloc hbel.size (boxObj ax ay cx cy dx dy)) hb
          have hz4 : r + 2 ≤ w4.heap.size := by have := hb.size; simp at this; omega
          have hlt : wr.heap.size < w4.heap.size := by have := hb.size; simp at this; omega
          clear n0 f0 f1 hix hb
          obtain ⟨on, hon⟩ : ∃ on, onSeg ax ay cx cy dx dy = on := ⟨_, rfl⟩
          rw [hon]
          have N := Lib.hid hon
          clear hon
          cases on
        · go_wp2
          refine ⟨⟨1, by omega, by simp, 0, sx, sy, rfl, ?_, .inl rfl, hbel, hz4, g0, g1, a0, a1⟩, by simp [intOf]⟩
          rw [S.out, H.out, N.out]; rfl
        · go_wp2
          go_region
          all_goals
            go_wp2
            refine ⟨⟨1, by omega, by simp, 1, ax, ay, rfl, ?_, .inr rfl, ((hbel.setCell (by simp; omega) _).setCell (by simp; omega) _).drew, by simpa using hz4, ?_, ?_, ?_, ?_⟩, by simp [intOf]⟩
            · rw [S.out, H.out, N.out]; rfl
            · exact set_cell (by simp) (new_cell g0)
            · exact new_cell (set_cell (by simp) g1)
            · exact set_frozen (set_frozen a0)
            · exact set_frozen (set_frozen a1)
        · go_wp2
          refine ⟨⟨1, by omega, by simp, 1, sx, sy, rfl, ?_, .inr rfl, hbel, hz4, g0, g1, a0, a1⟩, by simp [intOf]⟩
          rw [S.out, H.out, N.out]; rfl
        · go_wp2
          · have e1 : sx = ax := by assumption
            have e2 : sy = ay := by assumption
            refine ⟨⟨1, by omega, by simp, 1, sx, sy, rfl, ?_, .inr rfl, hbel, hz4, g0, g1, a0, a1⟩, by simp [intOf]⟩
            rw [S.out, H.out, N.out]; simp [scanStep, e1, e2]
          · have e1 : ¬ sy = ay := by assumption
            go_ret
            refine ⟨ret_intP (HM.out.2 (scanUpto_none (scanUpto_none (scanUpto_none ?_)))).symm, hbel⟩
            rw [S.out, H.out, N.out]; simp [scanStep, e1]
          · have e1 : ¬ sx = ax := by assumption
            go_ret
            refine ⟨ret_intP (HM.out.2 (scanUpto_none (scanUpto_none (scanUpto_none ?_)))).symm, hbel⟩
            rw [S.out, H.out, N.out]; simp [scanStep, e1]
      · have hix := end1 ax ay bx b_y cx cy dx dy
        have S := Lib.hid (scanUpto_succ (l := its) (k := 1) (by rw [← HI.out]; rfl))
        rcases hfo with rfl | rfl
        all_goals
          go_wp2_with fail
          refine (onSegment_any _ _ _ _ _ _ _ (by assumption) (by assumption) (by assumption) (by assumption) (by assumption) (by assumption)).mono ?_
          rintro e w4 ⟨rfl, hb⟩
          have n0 := box_newP wr bx b_y cx cy dx dy
          have m0 := keep_cell hb n0.1
          have m1 := keep_cell hb n0.2
          have a0 := keep_frozen hb (pt_old _ _ g0) (frozen_old wr (boxObj bx b_y cx cy dx dy) g0 f0)
          have a1 := keep_frozen hb (pt_old _ _ g1) (frozen_old wr (boxObj bx b_y cx cy dx dy) g1 f1)
          replace g0 := keep_cell hb (pt_old _ _ g0)
          replace g1 := keep_cell hb (pt_old _ _ g1)
          replace hbel := keep_below (hbel.alloc hbel.size (boxObj bx b_y cx cy dx dy)) hb
          have hz4 : r + 2 ≤ w4.heap.size := by have := hb.size; simp at this; omega
          have hlt : wr.heap.size < w4.heap.size := by have := hb.size; simp at this; omega
          clear n0 f0 f1 hix hb
          obtain ⟨on, hon⟩ : ∃ on, onSeg bx b_y cx cy dx dy = on := ⟨_, rfl⟩
          rw [hon]
          have N := Lib.hid hon
          clear hon
          cases on
        · go_wp2
          refine ⟨⟨2, by omega, by simp, 0, sx, sy, rfl, ?_, .inl rfl, hbel, hz4, g0, g1, a0, a1⟩, by simp [intOf]⟩
          rw [S.out, H.out, N.out]; rfl
        · go_wp2
          go_region
          all_goals
            go_wp2
            refine ⟨⟨2, by omega, by simp, 1, bx, b_y, rfl, ?_, .inr rfl, ((hbel.setCell (by simp; omega) _).setCell (by simp; omega) _).drew, by simpa using hz4, ?_, ?_, ?_, ?_⟩, by simp [intOf]⟩
            · rw [S.out, H.out, N.out]; rfl
            · exact set_cell (by simp) (new_cell g0)
            · exact new_cell (set_cell (by simp) g1)
            · exact set_frozen (set_frozen a0)
            · exact set_frozen (set_frozen a1)
        · go_wp2
          refine ⟨⟨2, by omega, by simp, 1, sx, sy, rfl, ?_, .inr rfl, hbel, hz4, g0, g1, a0, a1⟩, by simp [intOf]⟩
          rw [S.out, H.out, N.out]; rfl
        · go_wp2
          · have e1 : sx = bx := by assumption
            have e2 : sy = b_y := by assumption
            refine ⟨⟨2, by omega, by simp, 1, sx, sy, rfl, ?_, .inr rfl, hbel, hz4, g0, g1, a0, a1⟩, by simp [intOf]⟩
            rw [S.out, H.out, N.out]; simp [scanStep, e1, e2]
          · have e1 : ¬ sy = b_y := by assumption
            go_ret
            refine ⟨ret_intP (HM.out.2 (scanUpto_none (scanUpto_none ?_))).symm, hbel⟩
            rw [S.out, H.out, N.out]; simp [scanStep, e1]
          · have e1 : ¬ sx = bx := by assumption
            go_ret
            refine ⟨ret_intP (HM.out.2 (scanUpto_none (scanUpto_none ?_))).symm, hbel⟩
            rw [S.out, H.out, N.out]; simp [scanStep, e1]
      · have hix := end2 ax ay bx b_y cx cy dx dy
        have S := Lib.hid (scanUpto_succ (l := its) (k := 2) (by rw [← HI.out]; rfl))
        rcases hfo with rfl | rfl
        all_goals
          go_wp2_with fail
          refine (onSegment_any _ _ _ _ _ _ _ (by assumption) (by assumption) (by assumption) (by assumption) (by assumption) (by assumption)).mono ?_
          rintro e w4 ⟨rfl, hb⟩
          have n0 := box_newP wr cx cy ax ay bx b_y
          have m0 := keep_cell hb n0.1
          have m1 := keep_cell hb n0.2
          have a0 := keep_frozen hb (pt_old _ _ g0) (frozen_old wr (boxObj cx cy ax ay bx b_y) g0 f0)
          have a1 := keep_frozen hb (pt_old _ _ g1) (frozen_old wr (boxObj cx cy ax ay bx b_y) g1 f1)
          replace g0 := keep_cell hb (pt_old _ _ g0)
          replace g1 := keep_cell hb (pt_old _ _ g1)
          replace hbel := keep_below (hbel.alloc hbel.size (boxObj cx cy ax ay bx b_y)) hb
          have hz4 : r + 2 ≤ w4.heap.size := by have := hb.size; simp at this; omega
          have hlt : wr.heap.size < w4.heap.size := by have := hb.size; simp at this; omega
          clear n0 f0 f1 hix hb
          obtain ⟨on, hon⟩ : ∃ on, onSeg cx cy ax ay bx b_y = on := ⟨_, rfl⟩
          rw [hon]
          have N := Lib.hid hon
          clear hon
          cases on
        · go_wp2
          refine ⟨⟨3, by omega, by simp, 0, sx, sy, rfl, ?_, .inl rfl, hbel, hz4, g0, g1, a0, a1⟩, by simp [intOf]⟩
          rw [S.out, H.out, N.out]; rfl
        · go_wp2
          go_region
          all_goals
            go_wp2
            refine ⟨⟨3, by omega, by simp, 1, cx, cy, rfl, ?_, .inr rfl, ((hbel.setCell (by simp; omega) _).setCell (by simp; omega) _).drew, by simpa using hz4, ?_, ?_, ?_, ?_⟩, by simp [intOf]⟩
            · rw [S.out, H.out, N.out]; rfl
            · exact set_cell (by simp) (new_cell g0)
            · exact new_cell (set_cell (by simp) g1)
            · exact set_frozen (set_frozen a0)
            · exact set_frozen (set_frozen a1)
        · go_wp2
          refine ⟨⟨3, by omega, by simp, 1, sx, sy, rfl, ?_, .inr rfl, hbel, hz4, g0, g1, a0, a1⟩, by simp [intOf]⟩
          rw [S.out, H.out, N.out]; rfl
        · go_wp2
          · have e1 : sx = cx := by assumption
            have e2 : sy = cy := by assumption
            refine ⟨⟨3, by omega, by simp, 1, sx, sy, rfl, ?_, .inr rfl, hbel, hz4, g0, g1, a0, a1⟩, by simp [intOf]⟩
            rw [S.out, H.out, N.out]; simp [scanStep, e1, e2]
          · have e1 : ¬ sy = cy := by assumption
            go_ret
            refine ⟨ret_intP (HM.out.2 (scanUpto_none ?_)).symm, hbel⟩
            rw [S.out, H.out, N.out]; simp [scanStep, e1]
          · have e1 : ¬ sx = cx := by assumption
            go_ret
            refine ⟨ret_intP (HM.out.2 (scanUpto_none ?_)).symm, hbel⟩
            rw [S.out, H.out, N.out]; simp [scanStep, e1]
      · have hix := end3 ax ay bx b_y cx cy dx dy
        have S := Lib.hid (scanUpto_succ (l := its) (k := 3) (by rw [← HI.out]; rfl))
        rcases hfo with rfl | rfl
        all_goals
          go_wp2_with fail
          refine (onSegment_any _ _ _ _ _ _ _ (by assumption) (by assumption) (by assumption) (by assumption) (by assumption) (by assumption)).mono ?_
          rintro e w4 ⟨rfl, hb⟩
          have n0 := box_newP wr dx dy ax ay bx b_y
          have m0 := keep_cell hb n0.1
          have m1 := keep_cell hb n0.2
          have a0 := keep_frozen hb (pt_old _ _ g0) (frozen_old wr (boxObj dx dy ax ay bx b_y) g0 f0)
          have a1 := keep_frozen hb (pt_old _ _ g1) (frozen_old wr (boxObj dx dy ax ay bx b_y) g1 f1)
          replace g0 := keep_cell hb (pt_old _ _ g0)
          replace g1 := keep_cell hb (pt_old _ _ g1)
          replace hbel := keep_below (hbel.alloc hbel.size (boxObj dx dy ax ay bx b_y)) hb
          have hz4 : r + 2 ≤ w4.heap.size := by have := hb.size; simp at this; omega
          have hlt : wr.heap.size < w4.heap.size := by have := hb.size; simp at this; omega
          clear n0 f0 f1 hix hb
          obtain ⟨on, hon⟩ : ∃ on, onSeg dx dy ax ay bx b_y = on := ⟨_, rfl⟩
          rw [hon]
          have N := Lib.hid hon
          clear hon
          cases on
        · go_wp2
          refine ⟨⟨4, by omega, by simp, 0, sx, sy, rfl, ?_, .inl rfl, hbel, hz4, g0, g1, a0, a1⟩, by simp [intOf]⟩
          rw [S.out, H.out, N.out]; rfl
        · go_wp2
          go_region
          all_goals
            go_wp2
            refine ⟨⟨4, by omega, by simp, 1, dx, dy, rfl, ?_, .inr rfl, ((hbel.setCell (by simp; omega) _).setCell (by simp; omega) _).drew, by simpa using hz4, ?_, ?_, ?_, ?_⟩, by simp [intOf]⟩
            · rw [S.out, H.out, N.out]; rfl
            · exact set_cell (by simp) (new_cell g0)
            · exact new_cell (set_cell (by simp) g1)
            · exact set_frozen (set_frozen a0)
            · exact set_frozen (set_frozen a1)
        · go_wp2
          refine ⟨⟨4, by omega, by simp, 1, sx, sy, rfl, ?_, .inr rfl, hbel, hz4, g0, g1, a0, a1⟩, by simp [intOf]⟩
          rw [S.out, H.out, N.out]; rfl
        · go_wp2
          · have e1 : sx = dx := by assumption
            have e2 : sy = dy := by assumption
            refine ⟨⟨4, by omega, by simp, 1, sx, sy, rfl, ?_, .inr rfl, hbel, hz4, g0, g1, a0, a1⟩, by simp [intOf]⟩
            rw [S.out, H.out, N.out]; simp [scanStep, e1, e2]
          · have e1 : ¬ sy = dy := by assumption
            go_ret
            refine ⟨ret_intP (HM.out.2 ?_).symm, hbel⟩
            rw [S.out, H.out, N.out]; simp [scanStep, e1]
          · have e1 : ¬ sx = dx := by assumption
            go_ret
            refine ⟨ret_intP (HM.out.2 ?_).symm, hbel⟩
            rw [S.out, H.out, N.out]; simp [scanStep, e1]
  · go_wp2_with fail
    refine (parted_any _ _ _ _ _ _ _ _ _ (by assumption) (by assumption) (by assumption) (by assumption) (by assumption) (by assumption) (by assumption) (by assumption)).mono ?_
    rintro e wq ⟨rfl, hb⟩
    replace hP := hP.keep hb
    clear hb c0 c1 c2 c3 c4 c5 c6 c7
    obtain ⟨_, _, c0, c1, c2, c3, c4, c5, c6, c7⟩ := id hP
    obtain ⟨q, hq⟩ : ∃ q, parted cx cy dx dy ax ay bx b_y = q := ⟨_, rfl⟩
    rw [hq]
    cases q
    · have HM := Lib.hid (HM0.out (by rw [hp, hq]; rfl))
      have HQ := hq
      clear HM0 HC hq
      go_upto_region 3 with (fail)
      go_step
      go_step
      go_step
      go_step
      go_step
      go_step
      go_step
      go_step
      go_step
      go_step
      go_step
      go_step
      go_step
      go_step
      go_step
      go_step
      go_step
      go_step
      go_step
      go_step
      go_step
      go_step
      go_step
      go_step
      go_step
      go_step
      go_step
      go_step
      go_step
      go_step
      go_step
      go_step
      go_step
      go_step
      go_step
      go_step
      go_step
      go_step
      go_step
      go_step
      go_step
      go_step
      go_step
      go_step
      go_step
      go_step
      go_step
      go_step
      go_step
      go_step
      go_step
      go_step
      go_step
      go_step
      go_step
      refine wpList_store_new rfl 209 _ _ rfl _ rfl rfl (by kernel_rfl) rfl (by simp [Value.oneCell']) ?_
      have hr : (wq.alloc (.cells (ends ax ay bx b_y cx cy dx dy).toArray 209)).rangeAt wq.heap.size 0 (ends ax ay bx b_y cx cy dx dy) := range_new _ _ _
      have hP2 := hP.keep ((Below.refl _ wq).alloc (Nat.le_refl _) (.cells (ends ax ay bx b_y cx cy dx dy).toArray 209))
      clear hP c0 c1 c2 c3 c4 c5 c6 c7 hp
      change wpList _ _ _ _ _ (wq.alloc (.cells (ends ax ay bx b_y cx cy dx dy).toArray 209))
      obtain ⟨w2, hw2⟩ : ∃ w2, wq.alloc (.cells (ends ax ay bx b_y cx cy dx dy).toArray 209) = w2 := ⟨_, rfl⟩
      have hz : w2.heap.size = wq.heap.size + 1 := by rw [← hw2]; simp
      rw [hw2] at hr hP2 ⊢
      clear hw2
      obtain ⟨r, hr0⟩ : ∃ r, wq.heap.size = r := ⟨_, rfl⟩
      have hwr : w.heap.size ≤ r := by omega
      rw [hr0] at hr hz ⊢
      go_upto_region 6 with (fail)
      have hsz : (w2.alloc (ptObj 0 0)).heap.size = r + 2 := by simp [hz]
      have hr3 := range_keep ((Below.refl _ w2).alloc (Nat.le_refl _) (ptObj 0 0)) hr
      have hP3 := hP2.keep ((Below.refl _ w2).alloc (Nat.le_refl _) (ptObj 0 0))
      have hf : (w2.alloc (ptObj 0 0)).frozen? ⟨r + 1, 0, none⟩ = false ∧ (w2.alloc (ptObj 0 0)).frozen? ⟨r + 1, 1, none⟩ = false := by rw [← hz]; constructor <;> go_simp
      have hs := pt_new w2 0 0
      rw [hz] at hs
      obtain ⟨w3, hw3⟩ : ∃ w3, w2.alloc (ptObj 0 0) = w3 := ⟨_, rfl⟩
      rw [hw3] at hr3 hP3 hf hs hsz
      change Code.wp _ _ _ _ (w2.alloc (ptObj 0 0))
      rw [hw3]
      clear hr hP2 hw3 hz hr0
      go_step
      refine wpList_load_mid rfl 209 _ rfl r 0 rfl (ends ax ay bx b_y cx cy dx dy) _ hr3 Tryz.underlying209 rfl (by kernel_rfl) ?_
      go_wp2_with fail
      go_loopw [10, 44] (fun f i wr => ∃ k : Nat, k ≤ 4 ∧ i = .int .i64 k ∧ ∃ fo sx sy : Int, f = .int .i64 fo ∧ scanUpto its k = some (fo, sx, sy) ∧ (fo = 0 ∨ fo = 1) ∧ Below w.heap.size w wr ∧ r + 2 ≤ wr.heap.size ∧
        wr.cell? ⟨r + 1, 0, none⟩ = some (.int .i64 sx) ∧ wr.cell? ⟨r + 1, 1, none⟩ = some (.int .i64 sy) ∧ wr.frozen? ⟨r + 1, 0, none⟩ = false ∧ wr.frozen? ⟨r + 1, 1, none⟩ = false) (fun _ i _ => 4 - (intOf i).toNat)
      case atStart => exact ⟨0, by omega, rfl, 0, 0, 0, rfl, rfl, .inl rfl, hP3.b, Nat.le_of_eq hsz.symm, hs.1, hs.2, hf.1, hf.2⟩
      case round =>
        clear hP3 hr3 hf hs hsz
        obtain ⟨k, hk, rfl, fo, sx, sy, rfl, hsc, hfo, hbel, hz, g0, g1, f0, f1⟩ := hrel
        have H := Lib.hid hsc
        clear hsc
        have hk4 : k = 4 ∨ k = 0 ∨ k = 1 ∨ k = 2 ∨ k = 3 := by omega
        rcases hk4 with rfl | rfl | rfl | rfl | rfl
        · go_wp2
          go_ret
          exact ⟨ret_intP (HM.out.1 _ _ _ H.out).symm, hbel⟩
        · have hix := end0 ax ay bx b_y cx cy dx dy
          have S := Lib.hid (scanUpto_succ (l := its) (k := 0) (by rw [← HI.out]; rfl))
          rcases hfo with rfl | rfl
          all_goals
            go_wp2_with fail
            refine (onSegment_any _ _ _ _ _ _ _ (by assumption) (by assumption) (by assumption) (by assumption) (by assumption) (by assumption)).mono ?_
            rintro e w4 ⟨rfl, hb⟩
            have n0 := box_newP wr ax ay cx cy dx dy
            have m0 := keep_cell hb n0.1
            have m1 := keep_cell hb n0.2
            have a0 := keep_frozen hb (pt_old _ _ g0) (frozen_old wr (boxObj ax ay cx cy dx dy) g0 f0)
            have a1 := keep_frozen hb (pt_old _ _ g1) (frozen_old wr (boxObj ax ay cx cy dx dy) g1 f1)
            replace g0 := keep_cell hb (pt_old _ _ g0)
            replace g1 := keep_cell hb (pt_old _ _ g1)
            replace hbel := keep_below (hbel.alloc hbel.size (boxObj ax ay cx cy dx dy)) hb
            have hz4 : r + 2 ≤ w4.heap.size := by have := hb.size; simp at this; omega
            have hlt : wr.heap.size < w4.heap.size := by have := hb.size; simp at this; omega
            clear n0 f0 f1 hix hb
            obtain ⟨on, hon⟩ : ∃ on, onSeg ax ay cx cy dx dy = on := ⟨_, rfl⟩
            rw [hon]
            have N := Lib.hid hon
            clear hon
            cases on
          · go_wp2
            refine ⟨⟨1, by omega, by simp, 0, sx, sy, rfl, ?_, .inl rfl, hbel, hz4, g0, g1, a0, a1⟩, by simp [intOf]⟩
            rw [S.out, H.out, N.out]; rfl
          · go_wp2
            go_region
            all_goals
              go_wp2
              refine ⟨⟨1, by omega, by simp, 1, ax, ay, rfl, ?_, .inr rfl, ((hbel.setCell (by simp; omega) _).setCell (by simp; omega) _).drew, by simpa using hz4, ?_, ?_, ?_, ?_⟩, by simp [intOf]⟩
              · rw [S.out, H.out, N.out]; rfl
              · exact set_cell (by simp) (new_cell g0)
              · exact new_cell (set_cell (by simp) g1)
              · exact set_frozen (set_frozen a0)
              · exact set_frozen (set_frozen a1)
          · go_wp2
            refine ⟨⟨1, by omega, by simp, 1, sx, sy, rfl, ?_, .inr rfl, hbel, hz4, g0, g1, a0, a1⟩, by simp [intOf]⟩
            rw [S.out, H.out, N.out]; rfl
          · go_wp2
            · have e1 : sx = ax := by assumption
              have e2 : sy = ay := by assumption
              refine ⟨⟨1, by omega, by simp, 1, sx, sy, rfl, ?_, .inr rfl, hbel, hz4, g0, g1, a0, a1⟩, by simp [intOf]⟩
              rw [S.out, H.out, N.out]; simp [scanStep, e1, e2]
            · have e1 : ¬ sy = ay := by assumption
              go_ret
              refine ⟨ret_intP (HM.out.2 (scanUpto_none (scanUpto_none (scanUpto_none ?_)))).symm, hbel⟩
              rw [S.out, H.out, N.out]; simp [scanStep, e1]
            · have e1 : ¬ sx = ax := by assumption
              go_ret
              refine ⟨ret_intP (HM.out.2 (scanUpto_none (scanUpto_none (scanUpto_none ?_)))).symm, hbel⟩
              rw [S.out, H.out, N.out]; simp [scanStep, e1]
        · have hix := end1 ax ay bx b_y cx cy dx dy
          have S := Lib.hid (scanUpto_succ (l := its) (k := 1) (by rw [← HI.out]; rfl))
          rcases hfo with rfl | rfl
          all_goals
            go_wp2_with fail
            refine (onSegment_any _ _ _ _ _ _ _ (by assumption) (by assumption) (by assumption) (by assumption) (by assumption) (by assumption)).mono ?_
            rintro e w4 ⟨rfl, hb⟩
            have n0 := box_newP wr bx b_y cx cy dx dy
            have m0 := keep_cell hb n0.1
            have m1 := keep_cell hb n0.2
            have a0 := keep_frozen hb (pt_old _ _ g0) (frozen_old wr (boxObj bx b_y cx cy dx dy) g0 f0)
            have a1 := keep_frozen hb (pt_old _ _ g1) (frozen_old wr (boxObj bx b_y cx cy dx dy) g1 f1)
            replace g0 := keep_cell hb (pt_old _ _ g0)
            replace g1 := keep_cell hb (pt_old _ _ g1)
            replace hbel := keep_below (hbel.alloc hbel.size (boxObj bx b_y cx cy dx dy)) hb
            have hz4 : r + 2 ≤ w4.heap.size := by have := hb.size; simp at this; omega
            have hlt : wr.heap.size < w4.heap.size := by have := hb.size; simp at this; omega
            clear n0 f0 f1 hix hb
            obtain ⟨on, hon⟩ : ∃ on, onSeg bx b_y cx cy dx dy = on := ⟨_, rfl⟩
            rw [hon]
            have N := Lib.hid hon
            clear hon
            cases on
          · go_wp2
            refine ⟨⟨2, by omega, by simp, 0, sx, sy, rfl, ?_, .inl rfl, hbel, hz4, g0, g1, a0, a1⟩, by simp [intOf]⟩
            rw [S.out, H.out, N.out]; rfl
          · go_wp2
            go_region
            all_goals
              go_wp2
              refine ⟨⟨2, by omega, by simp, 1, bx, b_y, rfl, ?_, .inr rfl, ((hbel.setCell (by simp; omega) _).setCell (by simp; omega) _).drew, by simpa using hz4, ?_, ?_, ?_, ?_⟩, by simp [intOf]⟩
              · rw [S.out, H.out, N.out]; rfl
              · exact set_cell (by simp) (new_cell g0)
              · exact new_cell (set_cell (by simp) g1)
              · exact set_frozen (set_frozen a0)
              · exact set_frozen (set_frozen a1)
          · go_wp2
            refine ⟨⟨2, by omega, by simp, 1, sx, sy, rfl, ?_, .inr rfl, hbel, hz4, g0, g1, a0, a1⟩, by simp [intOf]⟩
            rw [S.out, H.out, N.out]; rfl
          · go_wp2
            · have e1 : sx = bx := by assumption
              have e2 : sy = b_y := by assumption
              refine ⟨⟨2, by omega, by simp, 1, sx, sy, rfl, ?_, .inr rfl, hbel, hz4, g0, g1, a0, a1⟩, by simp [intOf]⟩
              rw [S.out, H.out, N.out]; simp [scanStep, e1, e2]
            · have e1 : ¬ sy = b_y := by assumption
              go_ret
              refine ⟨ret_intP (HM.out.2 (scanUpto_none (scanUpto_none ?_))).symm, hbel⟩
              rw [S.out, H.out, N.out]; simp [scanStep, e1]
            · have e1 : ¬ sx = bx := by assumption
              go_ret
              refine ⟨ret_intP (HM.out.2 (scanUpto_none (scanUpto_none ?_))).symm, hbel⟩
              rw [S.out, H.out, N.out]; simp [scanStep, e1]
        · have hix := end2 ax ay bx b_y cx cy dx dy
          have S := Lib.hid (scanUpto_succ (l := its) (k := 2) (by rw [← HI.out]; rfl))
          rcases hfo with rfl | rfl
          all_goals
            go_wp2_with fail
            refine (onSegment_any _ _ _ _ _ _ _ (by assumption) (by assumption) (by assumption) (by assumption) (by assumption) (by assumption)).mono ?_
            rintro e w4 ⟨rfl, hb⟩
            have n0 := box_newP wr cx cy ax ay bx b_y
            have m0 := keep_cell hb n0.1
            have m1 := keep_cell hb n0.2
            have a0 := keep_frozen hb (pt_old _ _ g0) (frozen_old wr (boxObj cx cy ax ay bx b_y) g0 f0)
            have a1 := keep_frozen hb (pt_old _ _ g1) (frozen_old wr (boxObj cx cy ax ay bx b_y) g1 f1)
            replace g0 := keep_cell hb (pt_old _ _ g0)
            replace g1 := keep_cell hb (pt_old _ _ g1)
            replace hbel := keep_below (hbel.alloc hbel.size (boxObj cx cy ax ay bx b_y)) hb
            have hz4 : r + 2 ≤ w4.heap.size := by have := hb.size; simp at this; omega
            have hlt : wr.heap.size < w4.heap.size := by have := hb.size; simp at this; omega
            clear n0 f0 f1 hix hb
            obtain ⟨on, hon⟩ : ∃ on, onSeg cx cy ax ay bx b_y = on := ⟨_, rfl⟩
            rw [hon]
            have N := Lib.hid hon
            clear hon
            cases on
          · go_wp2
            refine ⟨⟨3, by omega, by simp, 0, sx, sy, rfl, ?_, .inl rfl, hbel, hz4, g0, g1, a0, a1⟩, by simp [intOf]⟩
            rw [S.out, H.out, N.out]; rfl
          · go_wp2
            go_region
            all_goals
              go_wp2
              refine ⟨⟨3, by omega, by simp, 1, cx, cy, rfl, ?_, .inr rfl, ((hbel.setCell (by simp; omega) _).setCell (by simp; omega) _).drew, by simpa using hz4, ?_, ?_, ?_, ?_⟩, by simp [intOf]⟩
              · rw [S.out, H.out, N.out]; rfl
              · exact set_cell (by simp) (new_cell g0)
              · exact new_cell (set_cell (by simp) g1)
              · exact set_frozen (set_frozen a0)
              · exact set_frozen (set_frozen a1)
          · go_wp2
            refine ⟨⟨3, by omega, by simp, 1, sx, sy, rfl, ?_, .inr rfl, hbel, hz4, g0, g1, a0, a1⟩, by simp [intOf]⟩
            rw [S.out, H.out, N.out]; rfl
          · go_wp2
            · have e1 : sx = cx := by assumption
              have e2 : sy = cy := by assumption
              refine ⟨⟨3, by omega, by simp, 1, sx, sy, rfl, ?_, .inr rfl, hbel, hz4, g0, g1, a0, a1⟩, by simp [intOf]⟩
              rw [S.out, H.out, N.out]; simp [scanStep, e1, e2]
            · have e1 : ¬ sy = cy := by assumption
              go_ret
              refine ⟨ret_intP (HM.out.2 (scanUpto_none ?_)).symm, hbel⟩
              rw [S.out, H.out, N.out]; simp [scanStep, e1]
            · have e1 : ¬ sx = cx := by assumption
              go_ret
              refine ⟨ret_intP (HM.out.2 (scanUpto_none ?_)).symm, hbel⟩
              rw [S.out, H.out, N.out]; simp [scanStep, e1]
        · have hix := end3 ax ay bx b_y cx cy dx dy
          have S := Lib.hid (scanUpto_succ (l := its) (k := 3) (by rw [← HI.out]; rfl))
          rcases hfo with rfl | rfl
          all_goals
            go_wp2_with fail
            refine (onSegment_any _ _ _ _ _ _ _ (by assumption) (by assumption) (by assumption) (by assumption) (by assumption) (by assumption)).mono ?_
            rintro e w4 ⟨rfl, hb⟩
            have n0 := box_newP wr dx dy ax ay bx b_y
            have m0 := keep_cell hb n0.1
            have m1 := keep_cell hb n0.2
            have a0 := keep_frozen hb (pt_old _ _ g0) (frozen_old wr (boxObj dx dy ax ay bx b_y) g0 f0)
            have a1 := keep_frozen hb (pt_old _ _ g1) (frozen_old wr (boxObj dx dy ax ay bx b_y) g1 f1)
            replace g0 := keep_cell hb (pt_old _ _ g0)
            replace g1 := keep_cell hb (pt_old _ _ g1)
            replace hbel := keep_below (hbel.alloc hbel.size (boxObj dx dy ax ay bx b_y)) hb
            have hz4 : r + 2 ≤ w4.heap.size := by have := hb.size; simp at this; omega
            have hlt : wr.heap.size < w4.heap.size := by have := hb.size; simp at this; omega
            clear n0 f0 f1 hix hb
            obtain ⟨on, hon⟩ : ∃ on, onSeg dx dy ax ay bx b_y = on := ⟨_, rfl⟩
            rw [hon]
            have N := Lib.hid hon
            clear hon
            cases on
          · go_wp2
            refine ⟨⟨4, by omega, by simp, 0, sx, sy, rfl, ?_, .inl rfl, hbel, hz4, g0, g1, a0, a1⟩, by simp [intOf]⟩
            rw [S.out, H.out, N.out]; rfl
          · go_wp2
            go_region
            all_goals
              go_wp2
              refine ⟨⟨4, by omega, by simp, 1, dx, dy, rfl, ?_, .inr rfl, ((hbel.setCell (by simp; omega) _).setCell (by simp; omega) _).drew, by simpa using hz4, ?_, ?_, ?_, ?_⟩, by simp [intOf]⟩
              · rw [S.out, H.out, N.out]; rfl
              · exact set_cell (by simp) (new_cell g0)
              · exact new_cell (set_cell (by simp) g1)
              · exact set_frozen (set_frozen a0)
              · exact set_frozen (set_frozen a1)
          · go_wp2
            refine ⟨⟨4, by omega, by simp, 1, sx, sy, rfl, ?_, .inr rfl, hbel, hz4, g0, g1, a0, a1⟩, by simp [intOf]⟩
            rw [S.out, H.out, N.out]; rfl
          · go_wp2
            · have e1 : sx = dx := by assumption
              have e2 : sy = dy := by assumption
              refine ⟨⟨4, by omega, by simp, 1, sx, sy, rfl, ?_, .inr rfl, hbel, hz4, g0, g1, a0, a1⟩, by simp [intOf]⟩
              rw [S.out, H.out, N.out]; simp [scanStep, e1, e2]
            · have e1 : ¬ sy = dy := by assumption
              go_ret
              refine ⟨ret_intP (HM.out.2 ?_).symm, hbel⟩
              rw [S.out, H.out, N.out]; simp [scanStep, e1]
            · have e1 : ¬ sx = dx := by assumption
              go_ret
              refine ⟨ret_intP (HM.out.2 ?_).symm, hbel⟩
              rw [S.out, H.out, N.out]; simp [scanStep, e1]
    · have HM := Lib.hid (HC.out (by rw [hp, hq]; rfl))
      clear HM0 HC hp hq
      go_wp2
      go_ret
      exact ⟨ret_intP HM.out.symm, hP.b⟩

end Go.Proofs.YtkmcboincjohlaaGreat
