/- The abstract machine, part MF. -/
import Derived.Test.YtlocdadkhdcedaaMD
import Derived.Test.YtlocdadkhdcedaaMA
import Derived.Deep.RegionHeld3
/- Walks: InvertMotion, the program's and the reference's. -/
namespace Go.Proofs.Ytlocdadkhdcedaa
open Go Go.RowKit Go.Proofs Go.Abs Go.Plain

/-- The inverse's quarter turns. -/
def invT (t : Int) (b : Bool) : Int := if b then t else (if t = 0 then 0 else 4 - t)
/-- Where the inverse's motion maps By. -/
def invP (t : Int) (b : Bool) (x y : Int) : Int × Int := mvP b (invT t b).toNat 0 0 (x, y)

theorem invT_mod {t : Int} (h0 : 0 ≤ t) (h3 : t ≤ 3) : (4 - t) % 4 = invT t false := by
  unfold invT
  simp only [Bool.false_eq_true, if_false]
  split <;> omega

theorem invT_range {t : Int} {b : Bool} (h0 : 0 ≤ t) (h3 : t ≤ 3) : 0 ≤ invT t b ∧ invT t b ≤ 3 := by
  unfold invT
  cases b
  · simp only [Bool.false_eq_true, if_false]
    split <;> omega
  · simp only [if_true]
    omega

theorem mvP_small {b : Bool} {n : Nat} {p : Int × Int} (h : Small p.1 ∧ Small p.2) : Small (mvP b n 0 0 p).1 ∧ Small (mvP b n 0 0 p).2 := by
  have := tn_small (mir_small h b) n
  unfold mvP
  simp only [Int.add_zero]
  exact this

/-- What InvertMotion answers. -/
def invV (t : Int) (b : Bool) (x y : Int) : Value := if vMo t x y then .tuple #[mo (invT t b) b (-(invP t b x y).1) (-(invP t b x y).2), .int .i64 0] else .tuple #[mo 0 false 0 0, .int .i64 1]

theorem Mb.set0 {w : World} {b : Nat} {t x y : Int} {m : Bool} {ty : TypeId} (h : Mb w b t m x y ty) (t' : Int) : Mb (w.setCell ⟨b, 0, none⟩ (.int .i64 t')) b t' m x y ty := put_heap _ h
theorem Mb.set1 {w : World} {b : Nat} {t x y : Int} {m : Bool} {ty : TypeId} (h : Mb w b t m x y ty) (m' : Bool) : Mb (w.setCell ⟨b, 1, none⟩ (.bool m')) b t m' x y ty := put_heap _ h
theorem Mb.set23 {w : World} {b : Nat} {t x y : Int} {m : Bool} {ty : TypeId} (h : Mb w b t m x y ty) (x' y' : Int) : Mb ((w.setCell ⟨b, 2, none⟩ (.int .i64 x')).setCell ⟨b, 3, none⟩ (.int .i64 y')) b t m x' y' ty := put_heap _ (put_heap _ h)
theorem Mb.setAll {w : World} {b : Nat} {t x y : Int} {m : Bool} {ty : TypeId} (h : Mb w b t m x y ty) (t' : Int) (m' : Bool) (x' y' : Int) : Mb ((((w.setCell ⟨b, 0, none⟩ (.int .i64 t')).setCell ⟨b, 1, none⟩ (.bool m')).setCell ⟨b, 2, none⟩ (.int .i64 x')).setCell ⟨b, 3, none⟩ (.int .i64 y')) b t' m' x' y' ty := put_heap _ (put_heap _ (put_heap _ (put_heap _ h)))

theorem below_four {B g : Nat} {a w : World} {v0 v1 v2 v3 : Value} (h : Below B a w) (hg : B ≤ g) : Below B a ((((w.setCell ⟨g, 0, none⟩ v0).setCell ⟨g, 1, none⟩ v1).setCell ⟨g, 2, none⟩ v2).setCell ⟨g, 3, none⟩ v3) := (((h.setCell hg _).setCell hg _).setCell hg _).setCell hg _

theorem inStart (w : World) (t : Int) (b : Bool) (x y : Int) : let W := (w.alloc (.cells #[.int .i64 t, .bool b, .int .i64 x, .int .i64 y] 49)).alloc (.cells #[.int .i64 0, .bool false, .int .i64 0, .int .i64 0] 49)
    Mb W w.heap.size t b x y 49 ∧ Mb W (w.heap.size + 1) 0 false 0 0 49 ∧ Below w.heap.size w W ∧ W.heap.size = w.heap.size + 2 := by
  have s1 : ∀ (v : World) (o : Obj), (v.alloc o).heap.size = v.heap.size + 1 := fun v o => by simp
  refine ⟨(Mb.new w t b x y 49).alloc _, ?_, ((Below.refl _ _).alloc (by simp) _).alloc (by simp) _, by simp⟩
  have := Mb.new (w.alloc (.cells #[.int .i64 t, .bool b, .int .i64 x, .int .i64 y] 49)) 0 false 0 0 49
  rwa [s1] at this

set_option maxRecDepth 100000 in
set_option maxHeartbeats 4000000 in
theorem invert_any (t : Int) (b : Bool) (x y : Int) (w : World) :
    Calls Try.prog 48 #[mo t b x y] w fun e w' => e = .returned (invV t b x y) ∧ Below w.heap.size w w' := by
  have C1 := fun w => validMotion_any t x y b w
  obtain ⟨vm, hvm⟩ : ∃ c, vMo t x y = c := ⟨_, rfl⟩
  obtain ⟨f0, f1, bel, hsz⟩ := inStart w t b x y
  rw [hvm] at C1
  have c0 := f0.c0
  have c1 := f0.c1
  have c3 := f0.c2
  have c4 := f0.c3
  cases vm
  · have HV : Hid (invV t b x y = .tuple #[mo 0 false 0 0, .int .i64 1]) := Lib.hid (by unfold invV; rw [hvm]; rfl)
    go_enter Try.func48, Try.ntmps48
    go_wp2_with fail
    refine (C1 _).mono ?_
    rintro e w2 ⟨rfl, hb⟩
    replace f1 := f1.keep hb
    replace bel := keep_below bel hb
    clear hb c0 c1 c3 c4
    have e0 := f1.c0
    have e1 := f1.c1
    have e2 := f1.c2
    have e3 := f1.c3
    have z0 := f1.f 0
    have z1 := f1.f 1
    have z2 := f1.f 2
    have z3 := f1.f 3
    go_wp2
    rw [HV.out]
    refine bodyPost_ret (v := .tuple #[mo 0 false 0 0, .int .i64 1]) ?_ rfl ⟨rfl, below_four bel (Nat.le_succ w.heap.size)⟩
    exact (res_cell_tmp (fn := Try.f48) rfl _ (by rfl) (f1.setAll 0 false 0 0).load49).trans (by rfl)
  · obtain ⟨⟨t0, t3⟩, hx, hy⟩ := vMo_parts hvm
    have hr := invT_range (b := b) t0 t3
    have CA := fun w => apply_any (invT t b) 0 0 x y b w (by unfold vMo withinB; simp; omega) ⟨hx, hy⟩
    have HV : Hid (invV t b x y = .tuple #[mo (invT t b) b (-(invP t b x y).1) (-(invP t b x y).2), .int .i64 0]) := Lib.hid (by unfold invV; rw [hvm]; rfl)
    obtain ⟨⟨p1, p2⟩, p3, p4⟩ := mvP_small (b := b) (n := (invT t b).toNat) (p := (x, y)) ⟨hx, hy⟩
    rw [show mvP b (invT t b).toNat 0 0 (x, y) = invP t b x y from rfl] at p1 p2 p3 p4 CA
    obtain ⟨q, hq⟩ : ∃ q, invP t b x y = q := ⟨_, rfl⟩
    rw [hq] at p1 p2 p3 p4 CA HV
    clear hq hvm
    have E := invT_mod t0 t3
    cases b
    · obtain ⟨iv, hiv⟩ : ∃ v, invT t false = v := ⟨_, rfl⟩
      rw [hiv] at E HV CA
      clear hiv hr
      go_enter Try.func48, Try.ntmps48
      go_wp2_with fail
      refine (C1 _).mono ?_
      rintro e w2 ⟨rfl, hb⟩
      replace f0 := f0.keep hb
      replace f1 := f1.keep hb
      replace bel := keep_below bel hb
      have hz : w.heap.size + 2 ≤ w2.heap.size := by rw [← hsz]; exact hb.size
      clear hb c0 c1 c3 c4 C1
      have c0 := f0.c0
      have c1 := f0.c1
      have c3 := f0.c2
      have c4 := f0.c3
      have l0 := f0.lt
      go_wp2_with fail
      refine (CA _).mono ?_
      rintro e w3 ⟨rfl, hb⟩
      have f2 := (Mb.new w2 iv false 0 0 49).keep hb
      replace f1 := (f1.alloc (.cells #[.int .i64 (iv), .bool false, .int .i64 0, .int .i64 0] 49)).keep hb
      replace bel := keep_below (bel.alloc bel.size (.cells #[.int .i64 (iv), .bool false, .int .i64 0, .int .i64 0] 49)) hb
      clear hb c0 c1 c3 c4 l0 CA f0
      have d0 := f2.c0
      have d1 := f2.c1
      have d2 := f2.c2
      have d3 := f2.c3
      have y2 := f2.f 2
      have y3 := f2.f 3
      have l2 := f2.lt
      have e0 := f1.c0
      have e1 := f1.c1
      have e2 := f1.c2
      have e3 := f1.c3
      have z0 := f1.f 0
      have z1 := f1.f 1
      have z2 := f1.f 2
      have z3 := f1.f 3
      have l1 := f1.lt
      have hne : ¬ w2.heap.size = w.heap.size + 1 := by omega
      have hne2 : ¬ w.heap.size + 1 = w2.heap.size := by omega
      go_wp2
      rw [HV.out]
      refine bodyPost_ret (v := .tuple #[mo iv false (-q.1) (-q.2), .int .i64 0]) ?_ rfl ⟨rfl, Below.alloc (below_four (Below.setCell (Below.setCell bel (show w.heap.size ≤ w2.heap.size by omega) _) (show w.heap.size ≤ w2.heap.size by omega) _) (Nat.le_succ _)) (by have := bel.size; simp; omega) _⟩
      exact (res_cell_tmp (fn := Try.f48) rfl _ (by rfl) ((((f1.other _ hne2).other _ hne2).setAll iv false (-q.1) (-q.2)).alloc _).load49).trans (by rfl)
    · rw [show invT t true = t from rfl] at HV CA
      obtain ⟨iv, hiv⟩ : ∃ v, invT t false = v := ⟨_, rfl⟩
      rw [hiv] at E
      clear hiv hr
      go_enter Try.func48, Try.ntmps48
      go_wp2_with fail
      refine (C1 _).mono ?_
      rintro e w2 ⟨rfl, hb⟩
      replace f0 := f0.keep hb
      replace f1 := f1.keep hb
      replace bel := keep_below bel hb
      have hz : w.heap.size + 2 ≤ w2.heap.size := by rw [← hsz]; exact hb.size
      clear hb c0 c1 c3 c4 C1
      have c0 := f0.c0
      have c1 := f0.c1
      have c3 := f0.c2
      have c4 := f0.c3
      have l0 := f0.lt
      go_wp2_with fail
      refine (CA _).mono ?_
      rintro e w3 ⟨rfl, hb⟩
      have f2 := (Mb.new w2 t true 0 0 49).keep hb
      replace f1 := (f1.alloc (.cells #[.int .i64 (t), .bool true, .int .i64 0, .int .i64 0] 49)).keep hb
      replace bel := keep_below (bel.alloc bel.size (.cells #[.int .i64 (t), .bool true, .int .i64 0, .int .i64 0] 49)) hb
      clear hb c0 c1 c3 c4 l0 CA f0
      have d0 := f2.c0
      have d1 := f2.c1
      have d2 := f2.c2
      have d3 := f2.c3
      have y2 := f2.f 2
      have y3 := f2.f 3
      have l2 := f2.lt
      have e0 := f1.c0
      have e1 := f1.c1
      have e2 := f1.c2
      have e3 := f1.c3
      have z0 := f1.f 0
      have z1 := f1.f 1
      have z2 := f1.f 2
      have z3 := f1.f 3
      have l1 := f1.lt
      have hne : ¬ w2.heap.size = w.heap.size + 1 := by omega
      have hne2 : ¬ w.heap.size + 1 = w2.heap.size := by omega
      go_wp2
      rw [HV.out]
      refine bodyPost_ret (v := .tuple #[mo t true (-q.1) (-q.2), .int .i64 0]) ?_ rfl ⟨rfl, Below.alloc (below_four (Below.setCell (Below.setCell bel (show w.heap.size ≤ w2.heap.size by omega) _) (show w.heap.size ≤ w2.heap.size by omega) _) (Nat.le_succ _)) (by have := bel.size; simp; omega) _⟩
      exact (res_cell_tmp (fn := Try.f48) rfl _ (by rfl) ((((f1.other _ hne2).other _ hne2).setAll t true (-q.1) (-q.2)).alloc _).load49).trans (by rfl)

set_option maxRecDepth 100000 in
set_option maxHeartbeats 4000000 in
theorem refInvert_any (t : Int) (b : Bool) (x y : Int) (w : World) :
    Calls Try.prog 49 #[mo t b x y] w fun e w' => e = .returned (invV t b x y) ∧ Below w.heap.size w w' := by
  have C1 := fun w => refMotion_any t x y b w
  obtain ⟨vm, hvm⟩ : ∃ c, vMo t x y = c := ⟨_, rfl⟩
  obtain ⟨f0, f1, bel, hsz⟩ := inStart w t b x y
  rw [hvm] at C1
  have c0 := f0.c0
  have c1 := f0.c1
  have c3 := f0.c2
  have c4 := f0.c3
  cases vm
  · have HV : Hid (invV t b x y = .tuple #[mo 0 false 0 0, .int .i64 1]) := Lib.hid (by unfold invV; rw [hvm]; rfl)
    go_enter Try.func49, Try.ntmps49
    go_wp2_with fail
    refine (C1 _).mono ?_
    rintro e w2 ⟨rfl, hb⟩
    replace f1 := f1.keep hb
    replace bel := keep_below bel hb
    clear hb c0 c1 c3 c4
    have e0 := f1.c0
    have e1 := f1.c1
    have e2 := f1.c2
    have e3 := f1.c3
    have z0 := f1.f 0
    have z1 := f1.f 1
    have z2 := f1.f 2
    have z3 := f1.f 3
    go_wp2
    rw [HV.out]
    refine bodyPost_ret (v := .tuple #[mo 0 false 0 0, .int .i64 1]) ?_ rfl ⟨rfl, below_four bel (Nat.le_succ w.heap.size)⟩
    exact (res_cell_tmp (fn := Try.f49) rfl _ (by rfl) (f1.setAll 0 false 0 0).load49).trans (by rfl)
  · obtain ⟨⟨t0, t3⟩, hx, hy⟩ := vMo_parts hvm
    have hr := invT_range (b := b) t0 t3
    have CA := fun w => moved_any (invT t b) 0 0 x y b w (by unfold vMo withinB; simp; omega) ⟨hx, hy⟩
    have HV : Hid (invV t b x y = .tuple #[mo (invT t b) b (-(invP t b x y).1) (-(invP t b x y).2), .int .i64 0]) := Lib.hid (by unfold invV; rw [hvm]; rfl)
    obtain ⟨⟨p1, p2⟩, p3, p4⟩ := mvP_small (b := b) (n := (invT t b).toNat) (p := (x, y)) ⟨hx, hy⟩
    rw [show mvP b (invT t b).toNat 0 0 (x, y) = invP t b x y from rfl] at p1 p2 p3 p4 CA
    obtain ⟨q, hq⟩ : ∃ q, invP t b x y = q := ⟨_, rfl⟩
    rw [hq] at p1 p2 p3 p4 CA HV
    clear hq hvm
    have E := invT_mod t0 t3
    cases b
    · obtain ⟨iv, hiv⟩ : ∃ v, invT t false = v := ⟨_, rfl⟩
      rw [hiv] at E HV CA
      clear hiv hr
      go_enter Try.func49, Try.ntmps49
      go_wp2_with fail
      refine (C1 _).mono ?_
      rintro e w2 ⟨rfl, hb⟩
      replace f0 := f0.keep hb
      replace f1 := f1.keep hb
      replace bel := keep_below bel hb
      have hz : w.heap.size + 2 ≤ w2.heap.size := by rw [← hsz]; exact hb.size
      clear hb c0 c1 c3 c4 C1
      have c0 := f0.c0
      have c1 := f0.c1
      have c3 := f0.c2
      have c4 := f0.c3
      have l0 := f0.lt
      go_wp2_with fail
      refine (CA _).mono ?_
      rintro e w3 ⟨rfl, hb⟩
      have f2 := (Mb.new w2 iv false 0 0 49).keep hb
      replace f1 := (f1.alloc (.cells #[.int .i64 (iv), .bool false, .int .i64 0, .int .i64 0] 49)).keep hb
      replace bel := keep_below (bel.alloc bel.size (.cells #[.int .i64 (iv), .bool false, .int .i64 0, .int .i64 0] 49)) hb
      clear hb c0 c1 c3 c4 l0 CA f0
      have d0 := f2.c0
      have d1 := f2.c1
      have d2 := f2.c2
      have d3 := f2.c3
      have y2 := f2.f 2
      have y3 := f2.f 3
      have l2 := f2.lt
      have e0 := f1.c0
      have e1 := f1.c1
      have e2 := f1.c2
      have e3 := f1.c3
      have z0 := f1.f 0
      have z1 := f1.f 1
      have z2 := f1.f 2
      have z3 := f1.f 3
      have l1 := f1.lt
      have hne : ¬ w2.heap.size = w.heap.size + 1 := by omega
      have hne2 : ¬ w.heap.size + 1 = w2.heap.size := by omega
      go_wp2
      rw [HV.out]
      refine bodyPost_ret (v := .tuple #[mo iv false (-q.1) (-q.2), .int .i64 0]) ?_ rfl ⟨rfl, Below.alloc (below_four (Below.setCell (Below.setCell bel (show w.heap.size ≤ w2.heap.size by omega) _) (show w.heap.size ≤ w2.heap.size by omega) _) (Nat.le_succ _)) (by have := bel.size; simp; omega) _⟩
      exact (res_cell_tmp (fn := Try.f49) rfl _ (by rfl) ((((f1.other _ hne2).other _ hne2).setAll iv false (-q.1) (-q.2)).alloc _).load49).trans (by rfl)
    · rw [show invT t true = t from rfl] at HV CA
      obtain ⟨iv, hiv⟩ : ∃ v, invT t false = v := ⟨_, rfl⟩
      rw [hiv] at E
      clear hiv hr
      go_enter Try.func49, Try.ntmps49
      go_wp2_with fail
      refine (C1 _).mono ?_
      rintro e w2 ⟨rfl, hb⟩
      replace f0 := f0.keep hb
      replace f1 := f1.keep hb
      replace bel := keep_below bel hb
      have hz : w.heap.size + 2 ≤ w2.heap.size := by rw [← hsz]; exact hb.size
      clear hb c0 c1 c3 c4 C1
      have c0 := f0.c0
      have c1 := f0.c1
      have c3 := f0.c2
      have c4 := f0.c3
      have l0 := f0.lt
      go_wp2_with fail
      refine (CA _).mono ?_
      rintro e w3 ⟨rfl, hb⟩
      have f2 := (Mb.new w2 t true 0 0 49).keep hb
      replace f1 := (f1.alloc (.cells #[.int .i64 (t), .bool true, .int .i64 0, .int .i64 0] 49)).keep hb
      replace bel := keep_below (bel.alloc bel.size (.cells #[.int .i64 (t), .bool true, .int .i64 0, .int .i64 0] 49)) hb
      clear hb c0 c1 c3 c4 l0 CA f0
      have d0 := f2.c0
      have d1 := f2.c1
      have d2 := f2.c2
      have d3 := f2.c3
      have y2 := f2.f 2
      have y3 := f2.f 3
      have l2 := f2.lt
      have e0 := f1.c0
      have e1 := f1.c1
      have e2 := f1.c2
      have e3 := f1.c3
      have z0 := f1.f 0
      have z1 := f1.f 1
      have z2 := f1.f 2
      have z3 := f1.f 3
      have l1 := f1.lt
      have hne : ¬ w2.heap.size = w.heap.size + 1 := by omega
      have hne2 : ¬ w.heap.size + 1 = w2.heap.size := by omega
      go_wp2
      rw [HV.out]
      refine bodyPost_ret (v := .tuple #[mo t true (-q.1) (-q.2), .int .i64 0]) ?_ rfl ⟨rfl, Below.alloc (below_four (Below.setCell (Below.setCell bel (show w.heap.size ≤ w2.heap.size by omega) _) (show w.heap.size ≤ w2.heap.size by omega) _) (Nat.le_succ _)) (by have := bel.size; simp; omega) _⟩
      exact (res_cell_tmp (fn := Try.f49) rfl _ (by rfl) ((((f1.other _ hne2).other _ hne2).setAll t true (-q.1) (-q.2)).alloc _).load49).trans (by rfl)

end Go.Proofs.Ytlocdadkhdcedaa

/- Walks: inTurn. -/
namespace Go.Proofs.Ytlocdadkhdcedaa
open Go Go.RowKit Go.Proofs Go.Abs Go.Plain

abbrev moF (t : Int) (b : Bool) (x y : Int) : Value := .func (.func 105) #[mo t b x y] #[]

theorem tn_zero : ∀ k, tn k (0, 0) = (0, 0)
  | 0 => rfl
  | k + 1 => by
    unfold tn
    rw [tn_zero k]
    rfl

theorem mvP_zero (b : Bool) (t : Nat) (x y : Int) : mvP b t x y (0, 0) = (x, y) := by
  have : mir b (0, 0) = (0, 0) := by cases b <;> rfl
  unfold mvP
  rw [this, tn_zero]
  simp

set_option maxRecDepth 100000 in
set_option maxHeartbeats 4000000 in
theorem inTurn1_any (t1 x1 y1 t2 x2 y2 : Int) (b1 b2 : Bool) (w : World) (bx h : Nat) (hm1 : vMo t1 x1 y1 = true) (hm2 : vMo t2 x2 y2 = true)
    (hbx : w.cell? ⟨bx, 0, none⟩ = some (.slice (some ⟨h, 0, none⟩) 2 2)) (h0 : w.cell? ⟨h, 0, none⟩ = some (moF t1 b1 x1 y1)) (h1 : w.cell? ⟨h, 1, none⟩ = some (moF t2 b2 x2 y2)) :
    Calls Try.prog 142 #[pt 0 0, .pointer (some ⟨bx, 0, none⟩)] w fun e w' => e = .returned (pt (mvP b2 t2.toNat x2 y2 (x1, y1)).1 (mvP b2 t2.toNat x2 y2 (x1, y1)).2) ∧ Below w.heap.size w w' := by
  have z0 : mvP b1 t1.toNat x1 y1 (0, 0) = (x1, y1) := mvP_zero b1 t1.toNat x1 y1
  have C1 := fun w => apply_any t1 x1 y1 0 0 b1 w hm1 ⟨by unfold Small; omega, by unfold Small; omega⟩
  rw [z0] at C1
  obtain ⟨_, hs1⟩ := vMo_parts hm1
  have C2 := fun w => apply_any t2 x2 y2 x1 y1 b2 w hm2 hs1
  obtain ⟨q, hq⟩ : ∃ q, mvP b2 t2.toNat x2 y2 (x1, y1) = q := ⟨_, rfl⟩
  rw [hq] at C2 ⊢
  obtain ⟨f1, f2, bel⟩ := tu_start w 0 0 0 0
  have k0 := keep_cell bel hbx
  have k1 := keep_cell bel h0
  have k2 := keep_cell bel h1
  have HQ : Hid (q = (q.1, q.2)) := Lib.hid rfl
  go_enter Try.func142, Try.ntmps142
  go_wp2_with fail
  clear hbx k0 hq z0
  go_loopw [8] (fun i wr => Below w.heap.size w wr ∧ Pb wr (w.heap.size + 1) 0 0 ∧ ((i = .int .i64 0 ∧ Pb wr w.heap.size 0 0) ∨ (i = .int .i64 1 ∧ Pb wr w.heap.size x1 y1) ∨ (i = .int .i64 2 ∧ Pb wr w.heap.size q.1 q.2))) (fun i _ => 2 - (intOf i).toNat)
  case atStart => exact ⟨bel, f2, .inl ⟨rfl, f1⟩⟩
  case round =>
    clear f1 f2 bel k1 k2
    obtain ⟨bel, g2, ⟨rfl, g1⟩ | ⟨rfl, g1⟩ | ⟨rfl, g1⟩⟩ := hrel
    · have k1 := keep_cell bel h0
      have c0 := g1.c0
      have c1 := g1.c1
      go_wp2_with fail
      refine (C1 _).mono ?_
      rintro e w2 ⟨rfl, hb⟩
      replace g1 := g1.keep hb
      replace g2 := g2.keep hb
      replace bel := keep_below bel hb
      clear hb k1 c0 c1
      have c0 := g1.c0
      have c1 := g1.c1
      have z0 := g1.f 0
      have z1 := g1.f 1
      go_wp2
      exact ⟨⟨(bel.setCell (Nat.le_refl _) _).setCell (Nat.le_refl _) _, (g2.other _ (by omega)).other _ (by omega), .inr (.inl ⟨by simp, g1.set _ _⟩)⟩, by simp [intOf]⟩
    · have k1 := keep_cell bel h1
      have c0 := g1.c0
      have c1 := g1.c1
      go_wp2_with fail
      refine (C2 _).mono ?_
      rintro e w2 ⟨rfl, hb⟩
      replace g1 := g1.keep hb
      replace g2 := g2.keep hb
      replace bel := keep_below bel hb
      clear hb k1 c0 c1
      have c0 := g1.c0
      have c1 := g1.c1
      have z0 := g1.f 0
      have z1 := g1.f 1
      go_wp2
      exact ⟨⟨(bel.setCell (Nat.le_refl _) _).setCell (Nat.le_refl _) _, (g2.other _ (by omega)).other _ (by omega), .inr (.inr ⟨by simp, g1.set _ _⟩)⟩, by simp [intOf]⟩
    · have c0 := g1.c0
      have c1 := g1.c1
      have e0 := g2.c0
      have e1 := g2.c1
      have z0 := g2.f 0
      have z1 := g2.f 1
      go_wp2
      refine bodyPost_ret (v := pt q.1 q.2) ?_ rfl ⟨rfl, (bel.setCell (Nat.le_succ _) _).setCell (Nat.le_succ _) _⟩
      exact res_cell (fn := Try.f142) rfl _ (by rfl) (g2.set _ _).load

end Go.Proofs.Ytlocdadkhdcedaa

/- Walks: ComposeMotions. -/
namespace Go.Proofs.Ytlocdadkhdcedaa
open Go Go.RowKit Go.Proofs Go.Abs Go.Plain

/-- The quarter turns of two motions, one after the other. -/
def comT (t1 t2 : Int) (b2 : Bool) : Int := if b2 then (t2 + 4 - t1) % 4 else (t2 + t1) % 4

/-- What ComposeMotions answers. -/
def comV (t1 : Int) (b1 : Bool) (x1 y1 t2 : Int) (b2 : Bool) (x2 y2 : Int) : Value :=
  if vMo t1 x1 y1 && vMo t2 x2 y2 then
    (if vMo (comT t1 t2 b2) (mvP b2 t2.toNat x2 y2 (x1, y1)).1 (mvP b2 t2.toNat x2 y2 (x1, y1)).2 then
      .tuple #[mo (comT t1 t2 b2) (b1 != b2) (mvP b2 t2.toNat x2 y2 (x1, y1)).1 (mvP b2 t2.toNat x2 y2 (x1, y1)).2, .int .i64 0] else .tuple #[mo 0 false 0 0, .int .i64 2])
  else .tuple #[mo 0 false 0 0, .int .i64 1]

theorem coStart (w : World) (t1 : Int) (b1 : Bool) (x1 y1 t2 : Int) (b2 : Bool) (x2 y2 : Int) : let W := ((w.alloc (.cells #[.int .i64 t1, .bool b1, .int .i64 x1, .int .i64 y1] 49)).alloc (.cells #[.int .i64 t2, .bool b2, .int .i64 x2, .int .i64 y2] 49)).alloc (.cells #[.int .i64 0, .bool false, .int .i64 0, .int .i64 0] 49)
    Mb W w.heap.size t1 b1 x1 y1 49 ∧ Mb W (w.heap.size + 1) t2 b2 x2 y2 49 ∧ Mb W (w.heap.size + 1 + 1) 0 false 0 0 49 ∧ Below w.heap.size w W ∧ W.heap.size = w.heap.size + 3 := by
  have s1 : ∀ (v : World) (o : Obj), (v.alloc o).heap.size = v.heap.size + 1 := fun v o => by simp
  refine ⟨((Mb.new w t1 b1 x1 y1 49).alloc _).alloc _, ?_, ?_, (((Below.refl _ _).alloc (by simp) _).alloc (by simp) _).alloc (by simp; omega) _, by simp⟩
  · have := (Mb.new (w.alloc (.cells #[.int .i64 t1, .bool b1, .int .i64 x1, .int .i64 y1] 49)) t2 b2 x2 y2 49).alloc (.cells #[.int .i64 0, .bool false, .int .i64 0, .int .i64 0] 49)
    rwa [s1] at this
  · have := Mb.new ((w.alloc (.cells #[.int .i64 t1, .bool b1, .int .i64 x1, .int .i64 y1] 49)).alloc (.cells #[.int .i64 t2, .bool b2, .int .i64 x2, .int .i64 y2] 49)) 0 false 0 0 49
    rwa [s1, s1] at this

theorem inTurn_any (h : Nat) (w : World) :
    Calls Try.prog 109 #[.slice (some ⟨h, 0, none⟩) 2 2] w fun e w' => e = .returned (.func (.func 142) #[] #[.pointer (some ⟨w.heap.size, 0, none⟩)]) ∧ w' = w.alloc (.cells #[.slice (some ⟨h, 0, none⟩) 2 2] 139) := by
  go_enter Try.func109, Try.ntmps109
  go_wp2
  go_ret
  exact ⟨rfl, rfl⟩

theorem cell_four {w : World} {b o g : Nat} {x v0 v1 v2 v3 : Value} (h : w.cell? ⟨b, o, none⟩ = some x) (hb : b < g) : ((((w.setCell ⟨g, 0, none⟩ v0).setCell ⟨g, 1, none⟩ v1).setCell ⟨g, 2, none⟩ v2).setCell ⟨g, 3, none⟩ v3).cell? ⟨b, o, none⟩ = some x := by
  have hne : ∀ k, (⟨b, o, none⟩ : Addr) ≠ ⟨g, k, none⟩ := fun k e => by injection e; omega
  exact set_cell (hne 3) (set_cell (hne 2) (set_cell (hne 1) (set_cell (hne 0) h)))

set_option maxRecDepth 100000 in
set_option maxHeartbeats 8000000 in
theorem compose_good (t1 : Int) (b1 : Bool) (x1 y1 t2 : Int) (b2 : Bool) (x2 y2 : Int) (w : World) (hm1 : vMo t1 x1 y1 = true) (hm2 : vMo t2 x2 y2 = true) :
    Calls Try.prog 46 #[mo t1 b1 x1 y1, mo t2 b2 x2 y2] w fun e w' => e = .returned (comV t1 b1 x1 y1 t2 b2 x2 y2) ∧ Below w.heap.size w w' := by
  have C1 := fun w => validMotion_any t1 x1 y1 b1 w
  have C2 := fun w => validMotion_any t2 x2 y2 b2 w
  have CI := fun w bx h => inTurn1_any t1 x1 y1 t2 x2 y2 b1 b2 w bx h hm1 hm2
  rw [hm1] at C1
  rw [hm2] at C2
  obtain ⟨f0, f1, f2, bel, hsz⟩ := coStart w t1 b1 x1 y1 t2 b2 x2 y2
  have c0 := f0.c0
  have c1 := f0.c1
  have c2 := f0.c2
  have c3 := f0.c3
  have l0 := f0.lt
  go_enter Try.func46, Try.ntmps46
  go_wp2_with fail
  refine (C1 _).mono ?_
  rintro e w2 ⟨rfl, hb⟩
  replace f0 := f0.keep hb
  replace f1 := f1.keep hb
  replace f2 := f2.keep hb
  replace bel := keep_below bel hb
  have hz : w.heap.size + 3 ≤ w2.heap.size := by rw [← hsz]; exact hb.size
  clear hb c0 c1 c2 c3 l0 C1
  have d0 := f1.c0
  have d1 := f1.c1
  have d2 := f1.c2
  have d3 := f1.c3
  go_wp2_with fail
  refine (C2 _).mono ?_
  rintro e w3 ⟨rfl, hb⟩
  replace f0 := f0.keep hb
  replace f1 := f1.keep hb
  replace f2 := f2.keep hb
  replace bel := keep_below bel hb
  replace hz := Nat.le_trans hz hb.size
  clear hb d0 d1 d2 d3 C2
  have c0 := f0.c0
  have c1 := f0.c1
  have c2 := f0.c2
  have c3 := f0.c3
  have d0 := f1.c0
  have d1 := f1.c1
  have d2 := f1.c2
  have d3 := f1.c3
  have l0 := f0.lt
  have l1 := f1.lt
  go_wp2_with fail
  refine (inTurn_any _ _).mono ?_
  rintro e w4 ⟨rfl, rfl⟩
  obtain ⟨⟨t10, t13⟩, ⟨xa1, xa2⟩, ya1, ya2⟩ := vMo_parts hm1
  obtain ⟨⟨t20, t23⟩, ⟨xb1, xb2⟩, yb1, yb2⟩ := vMo_parts hm2
  have s1 : ∀ (v : World) (o : Obj), (v.alloc o).heap.size = v.heap.size + 1 := fun v o => by simp
  obtain ⟨W5, hW5⟩ : ∃ W5, (w3.alloc (.cells #[moF t1 b1 x1 y1, moF t2 b2 x2 y2] 113)).alloc (.cells #[.slice (some ⟨w3.heap.size, 0, none⟩) 2 2] 139) = W5 := ⟨_, rfl⟩
  have hz5 : W5.heap.size = w3.heap.size + 2 := by rw [← hW5, s1, s1]
  have b5 : Below w3.heap.size w3 W5 := by rw [← hW5]; exact ((Below.refl _ _).alloc (Nat.le_refl _) _).alloc (by simp) _
  have kbx : W5.cell? ⟨w3.heap.size + 1, 0, none⟩ = some (.slice (some ⟨w3.heap.size, 0, none⟩) 2 2) := by
    rw [← hW5]
    have := World.alloc_heap_new (w3.alloc (.cells #[moF t1 b1 x1 y1, moF t2 b2 x2 y2] 113)) (.cells #[.slice (some ⟨w3.heap.size, 0, none⟩) 2 2] 139)
    rw [s1] at this
    exact cell_at this rfl
  have k0 : W5.cell? ⟨w3.heap.size, 0, none⟩ = some (moF t1 b1 x1 y1) := by
    rw [← hW5]
    exact pt_old _ _ (cell_at (World.alloc_heap_new w3 (.cells #[moF t1 b1 x1 y1, moF t2 b2 x2 y2] 113)) rfl)
  have k1 : W5.cell? ⟨w3.heap.size, 1, none⟩ = some (moF t2 b2 x2 y2) := by
    rw [← hW5]
    exact pt_old _ _ (cell_at (World.alloc_heap_new w3 (.cells #[moF t1 b1 x1 y1, moF t2 b2 x2 y2] 113)) rfl)
  replace f0 := f0.keep b5
  replace f1 := f1.keep b5
  replace f2 := f2.keep b5
  replace bel := keep_below bel b5
  have hlo : w.heap.size + 5 ≤ W5.heap.size := by omega
  clear c0 c1 c2 c3 d0 d1 d2 d3 b5 hz5
  have c0 := f0.c0
  have c1 := f0.c1
  have d0 := f1.c0
  have d1 := f1.c1
  have l0 := f0.lt
  have l1 := f1.lt
  obtain ⟨q, hq⟩ : ∃ q, mvP b2 t2.toNat x2 y2 (x1, y1) = q := ⟨_, rfl⟩
  rw [hq] at CI
  have HV : Hid (comV t1 b1 x1 y1 t2 b2 x2 y2 = if vMo (comT t1 t2 b2) q.1 q.2 then .tuple #[mo (comT t1 t2 b2) (b1 != b2) q.1 q.2, .int .i64 0] else .tuple #[mo 0 false 0 0, .int .i64 2]) := Lib.hid (by unfold comV; rw [hm1, hm2, hq]; rfl)
  have CV := fun T B w => validMotion_any T q.1 q.2 B w
  clear hq
  -- CLOSED
  obtain ⟨T, hTT⟩ : ∃ T, comT t1 t2 b2 = T := ⟨_, rfl⟩
  rw [hTT] at HV
  cases b2
  · have hT : (IntKind.i64.wrap (t1 + t2)).tmod 4 = T := by rw [← hTT]; rw [wi64 _ (by omega), Int.tmod_eq_emod_of_nonneg (by omega)]; unfold comT; rw [if_neg (by simp), Int.add_comm]
    clear hTT
    go_wp2_with fail
    clear hW5
    have bd := Below.drew (Below.refl W5.heap.size W5)
    have CI' := fun (w' : World) (hb : Below W5.heap.size W5 w') => CI w' (w3.heap.size + 1) w3.heap.size (keep_cell hb kbx) (keep_cell hb k0) (keep_cell hb k1)
    have NM : Mb (W5.drew.alloc (.cells #[.int .i64 0, .bool false, .int .i64 0, .int .i64 0] 49)) W5.heap.size 0 false 0 0 49 := Mb.new W5.drew 0 false 0 0 49
    go_region_held3 (fun w' => Below W5.heap.size W5 w' ∧ w'.cell? ⟨w.heap.size, 1, none⟩ = some (.bool b1) ∧ w'.cell? ⟨w.heap.size + 1, 0, none⟩ = some (.int .i64 t2) ∧ w'.cell? ⟨w.heap.size + 1, 1, none⟩ = some (.bool false))
      (first
        | exact ⟨bd, c1, d0, d1⟩
        | exact ⟨bd.alloc bd.size _, pt_old _ _ c1, pt_old _ _ d0, pt_old _ _ d1⟩
        | exact ⟨bz, y0, y1, y2⟩
        | exact ⟨bz.alloc bz.size _, pt_old _ _ y0, pt_old _ _ y1, pt_old _ _ y2⟩
        | exact ⟨below_four bz (Nat.le_refl _), cell_four y0 l0, cell_four y1 l1, cell_four y2 l1⟩)
      (first
        | (go_at_call 142; refine (CI' _ (by first | exact bd | exact bd.alloc bd.size _)).mono ?_; rintro e w' ⟨rfl, hb⟩; first
          | (have bz := keep_below bd hb; have y0 := keep_cell hb c1; have y1 := keep_cell hb d0; have y2 := keep_cell hb d1)
          | (have bz := keep_below (bd.alloc bd.size (.cells #[.int .i64 0, .bool false, .int .i64 0, .int .i64 0] 49)) hb; have y0 := keep_cell hb (pt_old W5.drew (.cells #[.int .i64 0, .bool false, .int .i64 0, .int .i64 0] 49) c1); have y1 := keep_cell hb (pt_old W5.drew (.cells #[.int .i64 0, .bool false, .int .i64 0, .int .i64 0] 49) d0); have y2 := keep_cell hb (pt_old W5.drew (.cells #[.int .i64 0, .bool false, .int .i64 0, .int .i64 0] 49) d1); have NM2 := NM.keep hb; have x0 := NM2.c0; have x1' := NM2.c1; have x2' := NM2.c2; have x3 := NM2.c3; have z0 := NM2.f 0; have z1 := NM2.f 1; have z2 := NM2.f 2; have z3 := NM2.f 3)))
    all_goals (rename_i hH; clear hH)
    · have G8 := Mb.new w' T (b1) q.1 q.2 49
      have G2 := (f2.keep bz).alloc (.cells #[.int .i64 T, .bool (b1), .int .i64 q.1, .int .i64 q.2] 49)
      have BX := (keep_below bel bz).alloc (keep_below bel bz).size (.cells #[.int .i64 T, .bool (b1), .int .i64 q.1, .int .i64 q.2] 49)
      try rw [hT]
      clear y0 y1 y2 c0 c1 d0 d1 k0 k1 kbx CI' CI NM
      have x0 := G8.c0
      have x1' := G8.c1
      have x2' := G8.c2
      have x3 := G8.c3
      have CVT := fun w => CV T (b1) w
      obtain ⟨vv, hvv⟩ : ∃ c, vMo T q.1 q.2 = c := ⟨_, rfl⟩
      rw [hvv] at CVT HV
      go_wp2_with fail
      refine (CVT _).mono ?_
      rintro e w8 ⟨rfl, hb⟩
      replace G8 := G8.keep hb
      replace G2 := G2.keep hb
      replace BX := keep_below BX hb
      clear hb x0 x1' x2' x3 CV CVT
      have e0 := G2.c0
      have e1 := G2.c1
      have e2 := G2.c2
      have e3 := G2.c3
      have z0 := G2.f 0
      have z1 := G2.f 1
      have z2 := G2.f 2
      have z3 := G2.f 3
      have d0 := G8.c0
      have d1 := G8.c1
      have d2 := G8.c2
      have d3 := G8.c3
      cases vv
      · go_wp2
        rw [HV.out]
        refine bodyPost_ret (v := .tuple #[mo 0 false 0 0, .int .i64 2]) ?_ rfl ⟨rfl, below_four BX (by omega)⟩
        exact (res_cell_tmp (fn := Try.f46) rfl _ (by rfl) (G2.setAll 0 false 0 0).load49).trans (by rfl)
      · go_wp2
        rw [HV.out]
        refine bodyPost_ret (v := .tuple #[mo T (b1) q.1 q.2, .int .i64 0]) ?_ rfl ⟨by cases b1 <;> rfl, below_four BX (by omega)⟩
        exact (res_cell_tmp (fn := Try.f46) rfl _ (by rfl) (G2.setAll T (b1) q.1 q.2).load49).trans (by rfl)
    · have G8 := NM2.setAll T (b1) q.1 q.2
      have hne : ¬ W5.heap.size = w.heap.size + 1 + 1 := by omega
      have hne2 : ¬ w.heap.size + 1 + 1 = W5.heap.size := by omega
      have G2 := ((((f2.keep bz).other (.int .i64 T) (c := W5.heap.size) (o := 0) hne2).other (.bool (b1)) (c := W5.heap.size) (o := 1) hne2).other (.int .i64 q.1) (c := W5.heap.size) (o := 2) hne2).other (.int .i64 q.2) (c := W5.heap.size) (o := 3) hne2
      have BX := below_four (g := W5.heap.size) (v0 := .int .i64 T) (v1 := .bool (b1)) (v2 := .int .i64 q.1) (v3 := .int .i64 q.2) (keep_below bel bz) (by omega)
      try rw [hT]
      clear y0 y1 y2 c0 c1 d0 d1 k0 k1 kbx CI' CI NM NM2 x0 x1' x2' x3 z0 z1 z2 z3 bz
      generalize ((((w'.setCell ⟨W5.heap.size, 0, none⟩ (.int .i64 T)).setCell ⟨W5.heap.size, 1, none⟩ (.bool (b1))).setCell ⟨W5.heap.size, 2, none⟩ (.int .i64 q.1)).setCell ⟨W5.heap.size, 3, none⟩ (.int .i64 q.2)) = W7 at G8 G2 BX ⊢
      have x0 := G8.c0
      have x1' := G8.c1
      have x2' := G8.c2
      have x3 := G8.c3
      have CVT := fun w => CV T (b1) w
      obtain ⟨vv, hvv⟩ : ∃ c, vMo T q.1 q.2 = c := ⟨_, rfl⟩
      rw [hvv] at CVT HV
      go_wp2_with fail
      refine (CVT _).mono ?_
      rintro e w8 ⟨rfl, hb⟩
      replace G8 := G8.keep hb
      replace G2 := G2.keep hb
      replace BX := keep_below BX hb
      clear hb x0 x1' x2' x3 CV CVT
      have e0 := G2.c0
      have e1 := G2.c1
      have e2 := G2.c2
      have e3 := G2.c3
      have z0 := G2.f 0
      have z1 := G2.f 1
      have z2 := G2.f 2
      have z3 := G2.f 3
      have d0 := G8.c0
      have d1 := G8.c1
      have d2 := G8.c2
      have d3 := G8.c3
      cases vv
      · go_wp2
        rw [HV.out]
        refine bodyPost_ret (v := .tuple #[mo 0 false 0 0, .int .i64 2]) ?_ rfl ⟨rfl, below_four BX (by omega)⟩
        exact (res_cell_tmp (fn := Try.f46) rfl _ (by rfl) (G2.setAll 0 false 0 0).load49).trans (by rfl)
      · go_wp2
        rw [HV.out]
        refine bodyPost_ret (v := .tuple #[mo T (b1) q.1 q.2, .int .i64 0]) ?_ rfl ⟨by cases b1 <;> rfl, below_four BX (by omega)⟩
        exact (res_cell_tmp (fn := Try.f46) rfl _ (by rfl) (G2.setAll T (b1) q.1 q.2).load49).trans (by rfl)
  · have hT : (IntKind.i64.wrap (4 - t1 + t2)).tmod 4 = T := by rw [← hTT]; rw [wi64 _ (by omega), Int.tmod_eq_emod_of_nonneg (by omega)]; unfold comT; rw [if_pos rfl]; congr 1; omega
    clear hTT
    go_wp2_with fail
    clear hW5
    have bd := Below.drew (Below.refl W5.heap.size W5)
    have CI' := fun (w' : World) (hb : Below W5.heap.size W5 w') => CI w' (w3.heap.size + 1) w3.heap.size (keep_cell hb kbx) (keep_cell hb k0) (keep_cell hb k1)
    have NM : Mb (W5.drew.alloc (.cells #[.int .i64 0, .bool false, .int .i64 0, .int .i64 0] 49)) W5.heap.size 0 false 0 0 49 := Mb.new W5.drew 0 false 0 0 49
    go_region_held3 (fun w' => Below W5.heap.size W5 w' ∧ w'.cell? ⟨w.heap.size, 1, none⟩ = some (.bool b1) ∧ w'.cell? ⟨w.heap.size + 1, 0, none⟩ = some (.int .i64 t2) ∧ w'.cell? ⟨w.heap.size + 1, 1, none⟩ = some (.bool true))
      (first
        | exact ⟨bd, c1, d0, d1⟩
        | exact ⟨bd.alloc bd.size _, pt_old _ _ c1, pt_old _ _ d0, pt_old _ _ d1⟩
        | exact ⟨bz, y0, y1, y2⟩
        | exact ⟨bz.alloc bz.size _, pt_old _ _ y0, pt_old _ _ y1, pt_old _ _ y2⟩
        | exact ⟨below_four bz (Nat.le_refl _), cell_four y0 l0, cell_four y1 l1, cell_four y2 l1⟩)
      (first
        | (go_at_call 142; refine (CI' _ (by first | exact bd | exact bd.alloc bd.size _)).mono ?_; rintro e w' ⟨rfl, hb⟩; first
          | (have bz := keep_below bd hb; have y0 := keep_cell hb c1; have y1 := keep_cell hb d0; have y2 := keep_cell hb d1)
          | (have bz := keep_below (bd.alloc bd.size (.cells #[.int .i64 0, .bool false, .int .i64 0, .int .i64 0] 49)) hb; have y0 := keep_cell hb (pt_old W5.drew (.cells #[.int .i64 0, .bool false, .int .i64 0, .int .i64 0] 49) c1); have y1 := keep_cell hb (pt_old W5.drew (.cells #[.int .i64 0, .bool false, .int .i64 0, .int .i64 0] 49) d0); have y2 := keep_cell hb (pt_old W5.drew (.cells #[.int .i64 0, .bool false, .int .i64 0, .int .i64 0] 49) d1); have NM2 := NM.keep hb; have x0 := NM2.c0; have x1' := NM2.c1; have x2' := NM2.c2; have x3 := NM2.c3; have z0 := NM2.f 0; have z1 := NM2.f 1; have z2 := NM2.f 2; have z3 := NM2.f 3)))
    all_goals (rename_i hH; clear hH)
    · have G8 := Mb.new w' T (!b1) q.1 q.2 49
      have G2 := (f2.keep bz).alloc (.cells #[.int .i64 T, .bool (!b1), .int .i64 q.1, .int .i64 q.2] 49)
      have BX := (keep_below bel bz).alloc (keep_below bel bz).size (.cells #[.int .i64 T, .bool (!b1), .int .i64 q.1, .int .i64 q.2] 49)
      try rw [hT]
      clear y0 y1 y2 c0 c1 d0 d1 k0 k1 kbx CI' CI NM
      have x0 := G8.c0
      have x1' := G8.c1
      have x2' := G8.c2
      have x3 := G8.c3
      have CVT := fun w => CV T (!b1) w
      obtain ⟨vv, hvv⟩ : ∃ c, vMo T q.1 q.2 = c := ⟨_, rfl⟩
      rw [hvv] at CVT HV
      go_wp2_with fail
      refine (CVT _).mono ?_
      rintro e w8 ⟨rfl, hb⟩
      replace G8 := G8.keep hb
      replace G2 := G2.keep hb
      replace BX := keep_below BX hb
      clear hb x0 x1' x2' x3 CV CVT
      have e0 := G2.c0
      have e1 := G2.c1
      have e2 := G2.c2
      have e3 := G2.c3
      have z0 := G2.f 0
      have z1 := G2.f 1
      have z2 := G2.f 2
      have z3 := G2.f 3
      have d0 := G8.c0
      have d1 := G8.c1
      have d2 := G8.c2
      have d3 := G8.c3
      cases vv
      · go_wp2
        rw [HV.out]
        refine bodyPost_ret (v := .tuple #[mo 0 false 0 0, .int .i64 2]) ?_ rfl ⟨rfl, below_four BX (by omega)⟩
        exact (res_cell_tmp (fn := Try.f46) rfl _ (by rfl) (G2.setAll 0 false 0 0).load49).trans (by rfl)
      · go_wp2
        rw [HV.out]
        refine bodyPost_ret (v := .tuple #[mo T (!b1) q.1 q.2, .int .i64 0]) ?_ rfl ⟨by cases b1 <;> rfl, below_four BX (by omega)⟩
        exact (res_cell_tmp (fn := Try.f46) rfl _ (by rfl) (G2.setAll T (!b1) q.1 q.2).load49).trans (by rfl)
    · have G8 := NM2.setAll T (!b1) q.1 q.2
      have hne : ¬ W5.heap.size = w.heap.size + 1 + 1 := by omega
      have hne2 : ¬ w.heap.size + 1 + 1 = W5.heap.size := by omega
      have G2 := ((((f2.keep bz).other (.int .i64 T) (c := W5.heap.size) (o := 0) hne2).other (.bool (!b1)) (c := W5.heap.size) (o := 1) hne2).other (.int .i64 q.1) (c := W5.heap.size) (o := 2) hne2).other (.int .i64 q.2) (c := W5.heap.size) (o := 3) hne2
      have BX := below_four (g := W5.heap.size) (v0 := .int .i64 T) (v1 := .bool (!b1)) (v2 := .int .i64 q.1) (v3 := .int .i64 q.2) (keep_below bel bz) (by omega)
      try rw [hT]
      clear y0 y1 y2 c0 c1 d0 d1 k0 k1 kbx CI' CI NM NM2 x0 x1' x2' x3 z0 z1 z2 z3 bz
      generalize ((((w'.setCell ⟨W5.heap.size, 0, none⟩ (.int .i64 T)).setCell ⟨W5.heap.size, 1, none⟩ (.bool (!b1))).setCell ⟨W5.heap.size, 2, none⟩ (.int .i64 q.1)).setCell ⟨W5.heap.size, 3, none⟩ (.int .i64 q.2)) = W7 at G8 G2 BX ⊢
      have x0 := G8.c0
      have x1' := G8.c1
      have x2' := G8.c2
      have x3 := G8.c3
      have CVT := fun w => CV T (!b1) w
      obtain ⟨vv, hvv⟩ : ∃ c, vMo T q.1 q.2 = c := ⟨_, rfl⟩
      rw [hvv] at CVT HV
      go_wp2_with fail
      refine (CVT _).mono ?_
      rintro e w8 ⟨rfl, hb⟩
      replace G8 := G8.keep hb
      replace G2 := G2.keep hb
      replace BX := keep_below BX hb
      clear hb x0 x1' x2' x3 CV CVT
      have e0 := G2.c0
      have e1 := G2.c1
      have e2 := G2.c2
      have e3 := G2.c3
      have z0 := G2.f 0
      have z1 := G2.f 1
      have z2 := G2.f 2
      have z3 := G2.f 3
      have d0 := G8.c0
      have d1 := G8.c1
      have d2 := G8.c2
      have d3 := G8.c3
      cases vv
      · go_wp2
        rw [HV.out]
        refine bodyPost_ret (v := .tuple #[mo 0 false 0 0, .int .i64 2]) ?_ rfl ⟨rfl, below_four BX (by omega)⟩
        exact (res_cell_tmp (fn := Try.f46) rfl _ (by rfl) (G2.setAll 0 false 0 0).load49).trans (by rfl)
      · go_wp2
        rw [HV.out]
        refine bodyPost_ret (v := .tuple #[mo T (!b1) q.1 q.2, .int .i64 0]) ?_ rfl ⟨by cases b1 <;> rfl, below_four BX (by omega)⟩
        exact (res_cell_tmp (fn := Try.f46) rfl _ (by rfl) (G2.setAll T (!b1) q.1 q.2).load49).trans (by rfl)

end Go.Proofs.Ytlocdadkhdcedaa

/- Walks: ComposeMotions of what is not valid; the reference's ComposeMotions. -/
namespace Go.Proofs.Ytlocdadkhdcedaa
open Go Go.RowKit Go.Proofs Go.Abs Go.Plain

set_option maxRecDepth 100000 in
set_option maxHeartbeats 4000000 in
theorem compose_bad (t1 : Int) (b1 : Bool) (x1 y1 t2 : Int) (b2 : Bool) (x2 y2 : Int) (w : World) (hbad : (vMo t1 x1 y1 && vMo t2 x2 y2) = false) :
    Calls Try.prog 46 #[mo t1 b1 x1 y1, mo t2 b2 x2 y2] w fun e w' => e = .returned (comV t1 b1 x1 y1 t2 b2 x2 y2) ∧ Below w.heap.size w w' := by
  have C1 := fun w => validMotion_any t1 x1 y1 b1 w
  have C2 := fun w => validMotion_any t2 x2 y2 b2 w
  have HV : Hid (comV t1 b1 x1 y1 t2 b2 x2 y2 = .tuple #[mo 0 false 0 0, .int .i64 1]) := Lib.hid (by unfold comV; rw [hbad]; rfl)
  obtain ⟨v1, hv1⟩ : ∃ c, vMo t1 x1 y1 = c := ⟨_, rfl⟩
  obtain ⟨v2, hv2⟩ : ∃ c, vMo t2 x2 y2 = c := ⟨_, rfl⟩
  rw [hv1] at C1 hbad
  rw [hv2] at C2 hbad
  clear hv1 hv2
  obtain ⟨f0, f1, f2, bel, hsz⟩ := coStart w t1 b1 x1 y1 t2 b2 x2 y2
  have c0 := f0.c0
  have c1 := f0.c1
  have c2 := f0.c2
  have c3 := f0.c3
  have l0 := f0.lt
  go_enter Try.func46, Try.ntmps46
  go_wp2_with fail
  refine (C1 _).mono ?_
  rintro e w2 ⟨rfl, hb⟩
  replace f1 := f1.keep hb
  replace f2 := f2.keep hb
  replace bel := keep_below bel hb
  clear hb c0 c1 c2 c3 l0 C1
  cases v1
  · have e0 := f2.c0
    have e1 := f2.c1
    have e2 := f2.c2
    have e3 := f2.c3
    have z0 := f2.f 0
    have z1 := f2.f 1
    have z2 := f2.f 2
    have z3 := f2.f 3
    go_wp2
    rw [HV.out]
    refine bodyPost_ret (v := .tuple #[mo 0 false 0 0, .int .i64 1]) ?_ rfl ⟨rfl, below_four bel (by omega)⟩
    exact (res_cell_tmp (fn := Try.f46) rfl _ (by rfl) (f2.setAll 0 false 0 0).load49).trans (by rfl)
  · obtain rfl : v2 = false := by simpa using hbad
    have d0 := f1.c0
    have d1 := f1.c1
    have d2 := f1.c2
    have d3 := f1.c3
    go_wp2_with fail
    refine (C2 _).mono ?_
    rintro e w3 ⟨rfl, hb⟩
    replace f2 := f2.keep hb
    replace bel := keep_below bel hb
    clear hb d0 d1 d2 d3
    have e0 := f2.c0
    have e1 := f2.c1
    have e2 := f2.c2
    have e3 := f2.c3
    have z0 := f2.f 0
    have z1 := f2.f 1
    have z2 := f2.f 2
    have z3 := f2.f 3
    go_wp2
    rw [HV.out]
    refine bodyPost_ret (v := .tuple #[mo 0 false 0 0, .int .i64 1]) ?_ rfl ⟨rfl, below_four bel (by omega)⟩
    exact (res_cell_tmp (fn := Try.f46) rfl _ (by rfl) (f2.setAll 0 false 0 0).load49).trans (by rfl)

set_option maxRecDepth 100000 in
set_option maxHeartbeats 4000000 in
theorem refCompose_bad (t1 : Int) (b1 : Bool) (x1 y1 t2 : Int) (b2 : Bool) (x2 y2 : Int) (w : World) (hbad : (vMo t1 x1 y1 && vMo t2 x2 y2) = false) :
    Calls Try.prog 47 #[mo t1 b1 x1 y1, mo t2 b2 x2 y2] w fun e w' => e = .returned (comV t1 b1 x1 y1 t2 b2 x2 y2) ∧ Below w.heap.size w w' := by
  have C1 := fun w => refMotion_any t1 x1 y1 b1 w
  have C2 := fun w => refMotion_any t2 x2 y2 b2 w
  have HV : Hid (comV t1 b1 x1 y1 t2 b2 x2 y2 = .tuple #[mo 0 false 0 0, .int .i64 1]) := Lib.hid (by unfold comV; rw [hbad]; rfl)
  obtain ⟨v1, hv1⟩ : ∃ c, vMo t1 x1 y1 = c := ⟨_, rfl⟩
  obtain ⟨v2, hv2⟩ : ∃ c, vMo t2 x2 y2 = c := ⟨_, rfl⟩
  rw [hv1] at C1 hbad
  rw [hv2] at C2 hbad
  clear hv1 hv2
  obtain ⟨f0, f1, f2, bel, hsz⟩ := coStart w t1 b1 x1 y1 t2 b2 x2 y2
  have c0 := f0.c0
  have c1 := f0.c1
  have c2 := f0.c2
  have c3 := f0.c3
  have l0 := f0.lt
  go_enter Try.func47, Try.ntmps47
  go_wp2_with fail
  refine (C1 _).mono ?_
  rintro e w2 ⟨rfl, hb⟩
  replace f1 := f1.keep hb
  replace f2 := f2.keep hb
  replace bel := keep_below bel hb
  clear hb c0 c1 c2 c3 l0 C1
  cases v1
  · have e0 := f2.c0
    have e1 := f2.c1
    have e2 := f2.c2
    have e3 := f2.c3
    have z0 := f2.f 0
    have z1 := f2.f 1
    have z2 := f2.f 2
    have z3 := f2.f 3
    go_wp2
    rw [HV.out]
    refine bodyPost_ret (v := .tuple #[mo 0 false 0 0, .int .i64 1]) ?_ rfl ⟨rfl, below_four bel (by omega)⟩
    exact (res_cell_tmp (fn := Try.f47) rfl _ (by rfl) (f2.setAll 0 false 0 0).load49).trans (by rfl)
  · obtain rfl : v2 = false := by simpa using hbad
    have d0 := f1.c0
    have d1 := f1.c1
    have d2 := f1.c2
    have d3 := f1.c3
    go_wp2_with fail
    refine (C2 _).mono ?_
    rintro e w3 ⟨rfl, hb⟩
    replace f2 := f2.keep hb
    replace bel := keep_below bel hb
    clear hb d0 d1 d2 d3
    have e0 := f2.c0
    have e1 := f2.c1
    have e2 := f2.c2
    have e3 := f2.c3
    have z0 := f2.f 0
    have z1 := f2.f 1
    have z2 := f2.f 2
    have z3 := f2.f 3
    go_wp2
    rw [HV.out]
    refine bodyPost_ret (v := .tuple #[mo 0 false 0 0, .int .i64 1]) ?_ rfl ⟨rfl, below_four bel (by omega)⟩
    exact (res_cell_tmp (fn := Try.f47) rfl _ (by rfl) (f2.setAll 0 false 0 0).load49).trans (by rfl)

set_option maxRecDepth 100000 in
set_option maxHeartbeats 8000000 in
theorem refCompose_good (t1 : Int) (b1 : Bool) (x1 y1 t2 : Int) (b2 : Bool) (x2 y2 : Int) (w : World) (hm1 : vMo t1 x1 y1 = true) (hm2 : vMo t2 x2 y2 = true) :
    Calls Try.prog 47 #[mo t1 b1 x1 y1, mo t2 b2 x2 y2] w fun e w' => e = .returned (comV t1 b1 x1 y1 t2 b2 x2 y2) ∧ Below w.heap.size w w' := by
  have C1 := fun w => refMotion_any t1 x1 y1 b1 w
  have C2 := fun w => refMotion_any t2 x2 y2 b2 w
  obtain ⟨⟨t10, t13⟩, hs1⟩ := vMo_parts hm1
  obtain ⟨⟨t20, t23⟩, hs2⟩ := vMo_parts hm2
  have CI := fun w => moved_any t2 x2 y2 x1 y1 b2 w hm2 hs1
  rw [hm1] at C1
  rw [hm2] at C2
  obtain ⟨f0, f1, f2, bel, hsz⟩ := coStart w t1 b1 x1 y1 t2 b2 x2 y2
  have c0 := f0.c0
  have c1 := f0.c1
  have c2 := f0.c2
  have c3 := f0.c3
  have l0 := f0.lt
  go_enter Try.func47, Try.ntmps47
  go_wp2_with fail
  refine (C1 _).mono ?_
  rintro e w2 ⟨rfl, hb⟩
  replace f0 := f0.keep hb
  replace f1 := f1.keep hb
  replace f2 := f2.keep hb
  replace bel := keep_below bel hb
  have hz : w.heap.size + 3 ≤ w2.heap.size := by rw [← hsz]; exact hb.size
  clear hb c0 c1 c2 c3 l0 C1 hsz
  have d0 := f1.c0
  have d1 := f1.c1
  have d2 := f1.c2
  have d3 := f1.c3
  go_wp2_with fail
  refine (C2 _).mono ?_
  rintro e W5 ⟨rfl, hb⟩
  replace f0 := f0.keep hb
  replace f1 := f1.keep hb
  replace f2 := f2.keep hb
  replace bel := keep_below bel hb
  replace hz := Nat.le_trans hz hb.size
  clear hb d0 d1 d2 d3 C2
  have c0 := f0.c0
  have c1 := f0.c1
  have c2 := f0.c2
  have c3 := f0.c3
  have d0 := f1.c0
  have d1 := f1.c1
  have d2 := f1.c2
  have d3 := f1.c3
  have l0 := f0.lt
  have l1 := f1.lt
  obtain ⟨⟨xa1, xa2⟩, ya1, ya2⟩ := hs1
  obtain ⟨⟨xb1, xb2⟩, yb1, yb2⟩ := hs2
  obtain ⟨q, hq⟩ : ∃ q, mvP b2 t2.toNat x2 y2 (x1, y1) = q := ⟨_, rfl⟩
  rw [hq] at CI
  have HV : Hid (comV t1 b1 x1 y1 t2 b2 x2 y2 = if vMo (comT t1 t2 b2) q.1 q.2 then .tuple #[mo (comT t1 t2 b2) (b1 != b2) q.1 q.2, .int .i64 0] else .tuple #[mo 0 false 0 0, .int .i64 2]) := Lib.hid (by unfold comV; rw [hm1, hm2, hq]; rfl)
  have CV := fun T B w => refMotion_any T q.1 q.2 B w
  clear hq
  obtain ⟨T, hTT⟩ : ∃ T, comT t1 t2 b2 = T := ⟨_, rfl⟩
  rw [hTT] at HV
  cases b2
  · have hT : (t2 + t1).tmod 4 = T := by rw [← hTT]; rw [Int.tmod_eq_emod_of_nonneg (by omega)]; unfold comT; rw [if_neg (by simp)]
    clear hTT
    go_wp2_with fail
    have bd := Below.drew (Below.refl W5.heap.size W5)
    have NM : Mb (W5.drew.alloc (.cells #[.int .i64 0, .bool false, .int .i64 0, .int .i64 0] 49)) W5.heap.size 0 false 0 0 49 := Mb.new W5.drew 0 false 0 0 49
    go_region_held3 (fun w' => Below W5.heap.size W5 w' ∧ w'.cell? ⟨w.heap.size, 1, none⟩ = some (.bool b1) ∧ w'.cell? ⟨w.heap.size + 1, 1, none⟩ = some (.bool false) ∧ w'.cell? ⟨w.heap.size, 2, none⟩ = some (.int .i64 x1) ∧ w'.cell? ⟨w.heap.size, 3, none⟩ = some (.int .i64 y1) ∧ w'.cell? ⟨w.heap.size + 1, 0, none⟩ = some (.int .i64 t2) ∧ w'.cell? ⟨w.heap.size + 1, 2, none⟩ = some (.int .i64 x2) ∧ w'.cell? ⟨w.heap.size + 1, 3, none⟩ = some (.int .i64 y2))
      (first
        | exact ⟨bd, c1, d1, c2, c3, d0, d2, d3⟩
        | exact ⟨bd.alloc bd.size _, pt_old _ _ c1, pt_old _ _ d1, pt_old _ _ c2, pt_old _ _ c3, pt_old _ _ d0, pt_old _ _ d2, pt_old _ _ d3⟩
        | exact ⟨bz, y0, y1', y2', y3, y4, y5, y6⟩
        | exact ⟨bz.alloc bz.size _, pt_old _ _ y0, pt_old _ _ y1', pt_old _ _ y2', pt_old _ _ y3, pt_old _ _ y4, pt_old _ _ y5, pt_old _ _ y6⟩
        | exact ⟨below_four bz (Nat.le_refl _), cell_four y0 l0, cell_four y1' l1, cell_four y2' l0, cell_four y3 l0, cell_four y4 l1, cell_four y5 l1, cell_four y6 l1⟩)
      (first
        | (go_at_call 107; refine (CI _).mono ?_; rintro e w' ⟨rfl, hb⟩; first
          | (have bz := keep_below bd hb; have y0 := keep_cell hb c1; have y1' := keep_cell hb d1; have y2' := keep_cell hb c2; have y3 := keep_cell hb c3; have y4 := keep_cell hb d0; have y5 := keep_cell hb d2; have y6 := keep_cell hb d3)
          | (have bz := keep_below (bd.alloc bd.size (.cells #[.int .i64 0, .bool false, .int .i64 0, .int .i64 0] 49)) hb; have y0 := keep_cell hb (pt_old W5.drew (.cells #[.int .i64 0, .bool false, .int .i64 0, .int .i64 0] 49) c1); have y1' := keep_cell hb (pt_old W5.drew (.cells #[.int .i64 0, .bool false, .int .i64 0, .int .i64 0] 49) d1); have y2' := keep_cell hb (pt_old W5.drew (.cells #[.int .i64 0, .bool false, .int .i64 0, .int .i64 0] 49) c2); have y3 := keep_cell hb (pt_old W5.drew (.cells #[.int .i64 0, .bool false, .int .i64 0, .int .i64 0] 49) c3); have y4 := keep_cell hb (pt_old W5.drew (.cells #[.int .i64 0, .bool false, .int .i64 0, .int .i64 0] 49) d0); have y5 := keep_cell hb (pt_old W5.drew (.cells #[.int .i64 0, .bool false, .int .i64 0, .int .i64 0] 49) d2); have y6 := keep_cell hb (pt_old W5.drew (.cells #[.int .i64 0, .bool false, .int .i64 0, .int .i64 0] 49) d3); have NM2 := NM.keep hb; have x0 := NM2.c0; have x1' := NM2.c1; have x2' := NM2.c2; have x3 := NM2.c3; have z0 := NM2.f 0; have z1 := NM2.f 1; have z2 := NM2.f 2; have z3 := NM2.f 3)))
    all_goals (rename_i hH; clear hH)
    · have G8 := Mb.new w' T (b1) q.1 q.2 49
      have G2 := (f2.keep bz).alloc (.cells #[.int .i64 T, .bool (b1), .int .i64 q.1, .int .i64 q.2] 49)
      have BX := (keep_below bel bz).alloc (keep_below bel bz).size (.cells #[.int .i64 T, .bool (b1), .int .i64 q.1, .int .i64 q.2] 49)
      try rw [hT]
      clear y0 y1' y2' y3 y4 y5 y6 c0 c1 c2 c3 d0 d1 d2 d3 CI NM
      have x0 := G8.c0
      have x1' := G8.c1
      have x2' := G8.c2
      have x3 := G8.c3
      have CVT := fun w => CV T (b1) w
      obtain ⟨vv, hvv⟩ : ∃ c, vMo T q.1 q.2 = c := ⟨_, rfl⟩
      rw [hvv] at CVT HV
      go_wp2_with fail
      refine (CVT _).mono ?_
      rintro e w8 ⟨rfl, hb⟩
      replace G8 := G8.keep hb
      replace G2 := G2.keep hb
      replace BX := keep_below BX hb
      clear hb x0 x1' x2' x3 CV CVT
      have e0 := G2.c0
      have e1 := G2.c1
      have e2 := G2.c2
      have e3 := G2.c3
      have z0 := G2.f 0
      have z1 := G2.f 1
      have z2 := G2.f 2
      have z3 := G2.f 3
      have d0 := G8.c0
      have d1 := G8.c1
      have d2 := G8.c2
      have d3 := G8.c3
      cases vv
      · go_wp2
        rw [HV.out]
        refine bodyPost_ret (v := .tuple #[mo 0 false 0 0, .int .i64 2]) ?_ rfl ⟨rfl, below_four BX (by omega)⟩
        exact (res_cell_tmp (fn := Try.f47) rfl _ (by rfl) (G2.setAll 0 false 0 0).load49).trans (by rfl)
      · go_wp2
        rw [HV.out]
        refine bodyPost_ret (v := .tuple #[mo T (b1) q.1 q.2, .int .i64 0]) ?_ rfl ⟨by cases b1 <;> rfl, below_four BX (by omega)⟩
        exact (res_cell_tmp (fn := Try.f47) rfl _ (by rfl) (G2.setAll T (b1) q.1 q.2).load49).trans (by rfl)
    · have G8 := NM2.setAll T (b1) q.1 q.2
      have hne : ¬ W5.heap.size = w.heap.size + 1 + 1 := by omega
      have hne2 : ¬ w.heap.size + 1 + 1 = W5.heap.size := by omega
      have G2 := ((((f2.keep bz).other (.int .i64 T) (c := W5.heap.size) (o := 0) hne2).other (.bool (b1)) (c := W5.heap.size) (o := 1) hne2).other (.int .i64 q.1) (c := W5.heap.size) (o := 2) hne2).other (.int .i64 q.2) (c := W5.heap.size) (o := 3) hne2
      have BX := below_four (g := W5.heap.size) (v0 := .int .i64 T) (v1 := .bool (b1)) (v2 := .int .i64 q.1) (v3 := .int .i64 q.2) (keep_below bel bz) (by omega)
      try rw [hT]
      clear y0 y1' y2' y3 y4 y5 y6 c0 c1 c2 c3 d0 d1 d2 d3 CI NM NM2 x0 x1' x2' x3 z0 z1 z2 z3 bz
      generalize ((((w'.setCell ⟨W5.heap.size, 0, none⟩ (.int .i64 T)).setCell ⟨W5.heap.size, 1, none⟩ (.bool (b1))).setCell ⟨W5.heap.size, 2, none⟩ (.int .i64 q.1)).setCell ⟨W5.heap.size, 3, none⟩ (.int .i64 q.2)) = W7 at G8 G2 BX ⊢
      have x0 := G8.c0
      have x1' := G8.c1
      have x2' := G8.c2
      have x3 := G8.c3
      have CVT := fun w => CV T (b1) w
      obtain ⟨vv, hvv⟩ : ∃ c, vMo T q.1 q.2 = c := ⟨_, rfl⟩
      rw [hvv] at CVT HV
      go_wp2_with fail
      refine (CVT _).mono ?_
      rintro e w8 ⟨rfl, hb⟩
      replace G8 := G8.keep hb
      replace G2 := G2.keep hb
      replace BX := keep_below BX hb
      clear hb x0 x1' x2' x3 CV CVT
      have e0 := G2.c0
      have e1 := G2.c1
      have e2 := G2.c2
      have e3 := G2.c3
      have z0 := G2.f 0
      have z1 := G2.f 1
      have z2 := G2.f 2
      have z3 := G2.f 3
      have d0 := G8.c0
      have d1 := G8.c1
      have d2 := G8.c2
      have d3 := G8.c3
      cases vv
      · go_wp2
        rw [HV.out]
        refine bodyPost_ret (v := .tuple #[mo 0 false 0 0, .int .i64 2]) ?_ rfl ⟨rfl, below_four BX (by omega)⟩
        exact (res_cell_tmp (fn := Try.f47) rfl _ (by rfl) (G2.setAll 0 false 0 0).load49).trans (by rfl)
      · go_wp2
        rw [HV.out]
        refine bodyPost_ret (v := .tuple #[mo T (b1) q.1 q.2, .int .i64 0]) ?_ rfl ⟨by cases b1 <;> rfl, below_four BX (by omega)⟩
        exact (res_cell_tmp (fn := Try.f47) rfl _ (by rfl) (G2.setAll T (b1) q.1 q.2).load49).trans (by rfl)
  · have hT : (t2 + 4 - t1).tmod 4 = T := by rw [← hTT]; rw [Int.tmod_eq_emod_of_nonneg (by omega)]; unfold comT; rw [if_pos rfl]
    clear hTT
    go_wp2_with fail
    have bd := Below.drew (Below.refl W5.heap.size W5)
    have NM : Mb (W5.drew.alloc (.cells #[.int .i64 0, .bool false, .int .i64 0, .int .i64 0] 49)) W5.heap.size 0 false 0 0 49 := Mb.new W5.drew 0 false 0 0 49
    go_region_held3 (fun w' => Below W5.heap.size W5 w' ∧ w'.cell? ⟨w.heap.size, 1, none⟩ = some (.bool b1) ∧ w'.cell? ⟨w.heap.size + 1, 1, none⟩ = some (.bool true) ∧ w'.cell? ⟨w.heap.size, 2, none⟩ = some (.int .i64 x1) ∧ w'.cell? ⟨w.heap.size, 3, none⟩ = some (.int .i64 y1) ∧ w'.cell? ⟨w.heap.size + 1, 0, none⟩ = some (.int .i64 t2) ∧ w'.cell? ⟨w.heap.size + 1, 2, none⟩ = some (.int .i64 x2) ∧ w'.cell? ⟨w.heap.size + 1, 3, none⟩ = some (.int .i64 y2))
      (first
        | exact ⟨bd, c1, d1, c2, c3, d0, d2, d3⟩
        | exact ⟨bd.alloc bd.size _, pt_old _ _ c1, pt_old _ _ d1, pt_old _ _ c2, pt_old _ _ c3, pt_old _ _ d0, pt_old _ _ d2, pt_old _ _ d3⟩
        | exact ⟨bz, y0, y1', y2', y3, y4, y5, y6⟩
        | exact ⟨bz.alloc bz.size _, pt_old _ _ y0, pt_old _ _ y1', pt_old _ _ y2', pt_old _ _ y3, pt_old _ _ y4, pt_old _ _ y5, pt_old _ _ y6⟩
        | exact ⟨below_four bz (Nat.le_refl _), cell_four y0 l0, cell_four y1' l1, cell_four y2' l0, cell_four y3 l0, cell_four y4 l1, cell_four y5 l1, cell_four y6 l1⟩)
      (first
        | (go_at_call 107; refine (CI _).mono ?_; rintro e w' ⟨rfl, hb⟩; first
          | (have bz := keep_below bd hb; have y0 := keep_cell hb c1; have y1' := keep_cell hb d1; have y2' := keep_cell hb c2; have y3 := keep_cell hb c3; have y4 := keep_cell hb d0; have y5 := keep_cell hb d2; have y6 := keep_cell hb d3)
          | (have bz := keep_below (bd.alloc bd.size (.cells #[.int .i64 0, .bool false, .int .i64 0, .int .i64 0] 49)) hb; have y0 := keep_cell hb (pt_old W5.drew (.cells #[.int .i64 0, .bool false, .int .i64 0, .int .i64 0] 49) c1); have y1' := keep_cell hb (pt_old W5.drew (.cells #[.int .i64 0, .bool false, .int .i64 0, .int .i64 0] 49) d1); have y2' := keep_cell hb (pt_old W5.drew (.cells #[.int .i64 0, .bool false, .int .i64 0, .int .i64 0] 49) c2); have y3 := keep_cell hb (pt_old W5.drew (.cells #[.int .i64 0, .bool false, .int .i64 0, .int .i64 0] 49) c3); have y4 := keep_cell hb (pt_old W5.drew (.cells #[.int .i64 0, .bool false, .int .i64 0, .int .i64 0] 49) d0); have y5 := keep_cell hb (pt_old W5.drew (.cells #[.int .i64 0, .bool false, .int .i64 0, .int .i64 0] 49) d2); have y6 := keep_cell hb (pt_old W5.drew (.cells #[.int .i64 0, .bool false, .int .i64 0, .int .i64 0] 49) d3); have NM2 := NM.keep hb; have x0 := NM2.c0; have x1' := NM2.c1; have x2' := NM2.c2; have x3 := NM2.c3; have z0 := NM2.f 0; have z1 := NM2.f 1; have z2 := NM2.f 2; have z3 := NM2.f 3)))
    all_goals (rename_i hH; clear hH)
    · have G8 := Mb.new w' T (!b1) q.1 q.2 49
      have G2 := (f2.keep bz).alloc (.cells #[.int .i64 T, .bool (!b1), .int .i64 q.1, .int .i64 q.2] 49)
      have BX := (keep_below bel bz).alloc (keep_below bel bz).size (.cells #[.int .i64 T, .bool (!b1), .int .i64 q.1, .int .i64 q.2] 49)
      try rw [hT]
      clear y0 y1' y2' y3 y4 y5 y6 c0 c1 c2 c3 d0 d1 d2 d3 CI NM
      have x0 := G8.c0
      have x1' := G8.c1
      have x2' := G8.c2
      have x3 := G8.c3
      have CVT := fun w => CV T (!b1) w
      obtain ⟨vv, hvv⟩ : ∃ c, vMo T q.1 q.2 = c := ⟨_, rfl⟩
      rw [hvv] at CVT HV
      go_wp2_with fail
      refine (CVT _).mono ?_
      rintro e w8 ⟨rfl, hb⟩
      replace G8 := G8.keep hb
      replace G2 := G2.keep hb
      replace BX := keep_below BX hb
      clear hb x0 x1' x2' x3 CV CVT
      have e0 := G2.c0
      have e1 := G2.c1
      have e2 := G2.c2
      have e3 := G2.c3
      have z0 := G2.f 0
      have z1 := G2.f 1
      have z2 := G2.f 2
      have z3 := G2.f 3
      have d0 := G8.c0
      have d1 := G8.c1
      have d2 := G8.c2
      have d3 := G8.c3
      cases vv
      · go_wp2
        rw [HV.out]
        refine bodyPost_ret (v := .tuple #[mo 0 false 0 0, .int .i64 2]) ?_ rfl ⟨rfl, below_four BX (by omega)⟩
        exact (res_cell_tmp (fn := Try.f47) rfl _ (by rfl) (G2.setAll 0 false 0 0).load49).trans (by rfl)
      · go_wp2
        rw [HV.out]
        refine bodyPost_ret (v := .tuple #[mo T (!b1) q.1 q.2, .int .i64 0]) ?_ rfl ⟨by cases b1 <;> rfl, below_four BX (by omega)⟩
        exact (res_cell_tmp (fn := Try.f47) rfl _ (by rfl) (G2.setAll T (!b1) q.1 q.2).load49).trans (by rfl)
    · have G8 := NM2.setAll T (!b1) q.1 q.2
      have hne : ¬ W5.heap.size = w.heap.size + 1 + 1 := by omega
      have hne2 : ¬ w.heap.size + 1 + 1 = W5.heap.size := by omega
      have G2 := ((((f2.keep bz).other (.int .i64 T) (c := W5.heap.size) (o := 0) hne2).other (.bool (!b1)) (c := W5.heap.size) (o := 1) hne2).other (.int .i64 q.1) (c := W5.heap.size) (o := 2) hne2).other (.int .i64 q.2) (c := W5.heap.size) (o := 3) hne2
      have BX := below_four (g := W5.heap.size) (v0 := .int .i64 T) (v1 := .bool (!b1)) (v2 := .int .i64 q.1) (v3 := .int .i64 q.2) (keep_below bel bz) (by omega)
      try rw [hT]
      clear y0 y1' y2' y3 y4 y5 y6 c0 c1 c2 c3 d0 d1 d2 d3 CI NM NM2 x0 x1' x2' x3 z0 z1 z2 z3 bz
      generalize ((((w'.setCell ⟨W5.heap.size, 0, none⟩ (.int .i64 T)).setCell ⟨W5.heap.size, 1, none⟩ (.bool (!b1))).setCell ⟨W5.heap.size, 2, none⟩ (.int .i64 q.1)).setCell ⟨W5.heap.size, 3, none⟩ (.int .i64 q.2)) = W7 at G8 G2 BX ⊢
      have x0 := G8.c0
      have x1' := G8.c1
      have x2' := G8.c2
      have x3 := G8.c3
      have CVT := fun w => CV T (!b1) w
      obtain ⟨vv, hvv⟩ : ∃ c, vMo T q.1 q.2 = c := ⟨_, rfl⟩
      rw [hvv] at CVT HV
      go_wp2_with fail
      refine (CVT _).mono ?_
      rintro e w8 ⟨rfl, hb⟩
      replace G8 := G8.keep hb
      replace G2 := G2.keep hb
      replace BX := keep_below BX hb
      clear hb x0 x1' x2' x3 CV CVT
      have e0 := G2.c0
      have e1 := G2.c1
      have e2 := G2.c2
      have e3 := G2.c3
      have z0 := G2.f 0
      have z1 := G2.f 1
      have z2 := G2.f 2
      have z3 := G2.f 3
      have d0 := G8.c0
      have d1 := G8.c1
      have d2 := G8.c2
      have d3 := G8.c3
      cases vv
      · go_wp2
        rw [HV.out]
        refine bodyPost_ret (v := .tuple #[mo 0 false 0 0, .int .i64 2]) ?_ rfl ⟨rfl, below_four BX (by omega)⟩
        exact (res_cell_tmp (fn := Try.f47) rfl _ (by rfl) (G2.setAll 0 false 0 0).load49).trans (by rfl)
      · go_wp2
        rw [HV.out]
        refine bodyPost_ret (v := .tuple #[mo T (!b1) q.1 q.2, .int .i64 0]) ?_ rfl ⟨by cases b1 <;> rfl, below_four BX (by omega)⟩
        exact (res_cell_tmp (fn := Try.f47) rfl _ (by rfl) (G2.setAll T (!b1) q.1 q.2).load49).trans (by rfl)

end Go.Proofs.Ytlocdadkhdcedaa
