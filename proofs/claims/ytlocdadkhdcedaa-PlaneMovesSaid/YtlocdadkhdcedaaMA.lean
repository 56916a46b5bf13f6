/- The abstract machine, part MA. -/
import Derived.Test.YtlocdadkhdcedaaXA
/- Motions of points (plain). -/
namespace Go.Proofs.Ytlocdadkhdcedaa
open Go Go.RowKit Go.Proofs

/-! ### motions -/
def rt (p : Int × Int) : Int × Int := (-p.2, p.1)
def tn : Nat → Int × Int → Int × Int
  | 0, p => p
  | k + 1, p => rt (tn k p)
def mir (b : Bool) (p : Int × Int) : Int × Int := if b then (-p.1, p.2) else p
/-- The point to which a motion maps one. -/
def mvP (b : Bool) (t : Nat) (x y : Int) (p : Int × Int) : Int × Int := ((tn t (mir b p)).1 + x, (tn t (mir b p)).2 + y)

def det (p q : Int × Int) : Int := p.1 * q.2 - q.1 * p.2

theorem det_rt (p q : Int × Int) : det (rt p) (rt q) = det p q := by
  unfold det rt
  grind

theorem det_tn (p q : Int × Int) : ∀ k, det (tn k p) (tn k q) = det p q
  | 0 => rfl
  | k + 1 => by
    unfold tn
    rw [det_rt, det_tn p q k]

theorem det_mir (b : Bool) (p q : Int × Int) : det (mir b p) (mir b q) = if b then - det p q else det p q := by
  cases b
  · rfl
  · unfold det mir
    simp only [if_true]
    grind

theorem det_mv (b : Bool) (t : Nat) (x y : Int) (p q : Int × Int) : det (mvP b t x y p) (mvP b t x y q) = (if b then - det p q else det p q) + (((tn t (mir b p)).1 * y - x * (tn t (mir b p)).2) - ((tn t (mir b q)).1 * y - x * (tn t (mir b q)).2)) := by
  rw [← det_mir, ← det_tn (mir b p) (mir b q) t]
  unfold mvP
  generalize tn t (mir b p) = u, tn t (mir b q) = v
  unfold det
  grind

theorem sum_sub (a c : Nat → Int) : ∀ l : List Nat, (l.map fun x => a x - c x).sum = (l.map a).sum - (l.map c).sum
  | [] => rfl
  | x :: l => by
    simp only [List.map_cons, List.sum_cons, sum_sub a c l]
    omega

theorem sum_add (a c : Nat → Int) : ∀ l : List Nat, (l.map fun x => a x + c x).sum = (l.map a).sum + (l.map c).sum
  | [] => rfl
  | x :: l => by
    simp only [List.map_cons, List.sum_cons, sum_add a c l]
    omega

theorem sum_neg (a : Nat → Int) : ∀ l : List Nat, (l.map fun x => - a x).sum = - (l.map a).sum
  | [] => rfl
  | x :: l => by
    simp only [List.map_cons, List.sum_cons, sum_neg a l]
    omega

theorem sum_next (f : Nat → Int) (m : Nat) : ((List.range (m + 1)).map fun x => f ((x + 1) % (m + 1))).sum = ((List.range (m + 1)).map f).sum := by
  have e1 : (List.range m).map (fun x => f ((x + 1) % (m + 1))) = (List.range m).map (fun x => f (x + 1)) := List.map_congr_left fun x hx => by
    rw [Nat.mod_eq_of_lt (by have := List.mem_range.1 hx; omega)]
  have e2 : ((List.range (m + 1)).map fun x => f ((x + 1) % (m + 1))).sum = ((List.range m).map (fun x => f (x + 1))).sum + f 0 := by
    rw [List.range_succ, List.map_append, e1, List.sum_append]
    simp
  have e3 : ((List.range (m + 1)).map f).sum = f 0 + ((List.range m).map (fun x => f (x + 1))).sum := by
    rw [List.range_succ_eq_map, List.map_cons, List.sum_cons, List.map_map]
    rfl
  omega

theorem sum_tele (f : Nat → Int) (n : Nat) : ((List.range n).map fun x => f x - f ((x + 1) % n)).sum = 0 := by
  cases n with
  | zero => rfl
  | succ m =>
    rw [sum_sub, sum_next]
    omega

theorem rt_inj {p q : Int × Int} (h : rt p = rt q) : p = q := by
  unfold rt at h
  obtain ⟨a, b⟩ := p
  obtain ⟨c, d⟩ := q
  simp only [Prod.mk.injEq] at h ⊢
  omega

theorem tn_inj {p q : Int × Int} : ∀ k, tn k p = tn k q → p = q
  | 0, h => h
  | k + 1, h => tn_inj k (rt_inj h)

theorem mir_inj {b : Bool} {p q : Int × Int} (h : mir b p = mir b q) : p = q := by
  cases b
  · exact h
  · unfold mir at h
    obtain ⟨a, c⟩ := p
    obtain ⟨d, e⟩ := q
    simp only [if_true, Prod.mk.injEq] at h ⊢
    omega

theorem mvP_inj {b : Bool} {t : Nat} {x y : Int} {p q : Int × Int} (h : mvP b t x y p = mvP b t x y q) : p = q := by
  unfold mvP at h
  simp only [Prod.mk.injEq] at h
  refine mir_inj (b := b) (tn_inj t ?_)
  rw [Prod.ext_iff]
  omega

end Go.Proofs.Ytlocdadkhdcedaa

/- Walks: ValidMotion, the program's and the reference's. -/
namespace Go.Proofs.Ytlocdadkhdcedaa
open Go Go.RowKit Go.Proofs

abbrev mo (t : Int) (b : Bool) (x y : Int) : Value := .agg #[.int .i64 t, .bool b, .int .i64 x, .int .i64 y]

/-- Is the motion valid? -/
def vMo (t x y : Int) : Bool := decide (0 ≤ t) && (decide (t ≤ 3) && (withinB x 8192 && withinB y 8192))

set_option maxHeartbeats 1000000 in
theorem validMotion_any (t x y : Int) (b : Bool) (w : World) :
    Calls Try.prog 44 #[mo t b x y] w fun e w' => e = .returned (.bool (vMo t x y)) ∧ Below w.heap.size w w' := by
  have C1 := fun w => within_any x 8192 w (by omega) (by omega)
  have C2 := fun w => within_any y 8192 w (by omega) (by omega)
  obtain ⟨b1, e1⟩ : ∃ b, withinB x 8192 = b := ⟨_, rfl⟩
  obtain ⟨b2, e2⟩ : ∃ b, withinB y 8192 = b := ⟨_, rfl⟩
  have hv : vMo t x y = (decide (0 ≤ t) && (decide (t ≤ 3) && (b1 && b2))) := by rw [← e1, ← e2]; rfl
  rw [e1] at C1
  rw [e2] at C2
  obtain ⟨v, hv'⟩ : ∃ v, vMo t x y = v := ⟨_, rfl⟩
  rw [hv'] at hv ⊢
  have HV := Lib.hid hv
  clear hv hv' e1 e2
  by_cases h0 : 0 ≤ t
  · by_cases h3 : t ≤ 3
    · cases b1
      · go_enter Try.func44, Try.ntmps44
        go_wp2_with fail
        refine (C1 _).mono ?_
        rintro e w' ⟨rfl, rfl⟩
        go_wp2
        go_ret
        refine ⟨?_, (Below.refl _ _).alloc (Nat.le_refl _) _⟩
        rw [HV.out]
        simp [*]
      · go_enter Try.func44, Try.ntmps44
        go_wp2_with fail
        refine (C1 _).mono ?_
        rintro e w' ⟨rfl, rfl⟩
        go_wp2_with fail
        refine (C2 _).mono ?_
        rintro e w' ⟨rfl, rfl⟩
        go_wp2
        go_ret
        refine ⟨?_, (Below.refl _ _).alloc (Nat.le_refl _) _⟩
        rw [HV.out]
        simp [*]
    · have d3 := decide_eq_false h3
      have h4 : 0 ≤ t ∧ 3 < t := by omega
      clear h3 h0
      obtain ⟨h0, h3⟩ := h4
      go_enter Try.func44, Try.ntmps44
      go_wp2
      go_ret
      refine ⟨?_, (Below.refl _ _).alloc (Nat.le_refl _) _⟩
      rw [HV.out]
      simp [*]
  · have D := Lib.hid (decide_eq_false h0)
    go_enter Try.func44, Try.ntmps44
    go_wp2
    go_ret
    refine ⟨?_, (Below.refl _ _).alloc (Nat.le_refl _) _⟩
    rw [HV.out, D.out]
    rfl

set_option maxHeartbeats 1000000 in
theorem refMotion_any (t x y : Int) (b : Bool) (w : World) :
    Calls Try.prog 45 #[mo t b x y] w fun e w' => e = .returned (.bool (vMo t x y)) ∧ Below w.heap.size w w' := by
  obtain ⟨v, hv⟩ : ∃ v, vMo t x y = v := ⟨_, rfl⟩
  rw [hv]
  have HV := Lib.hid hv
  clear hv
  go_enter Try.func45, Try.ntmps45
  go_wp2
  all_goals go_ret
  all_goals refine ⟨?_, (Below.refl _ _).alloc (Nat.le_refl _) _⟩
  all_goals rw [← HV.out]; unfold vMo withinB
  all_goals simp [*]
  all_goals (try omega)
  all_goals (intros; omega)

end Go.Proofs.Ytlocdadkhdcedaa

/- Walks: apply; the reference's turned, Moved. -/
namespace Go.Proofs.Ytlocdadkhdcedaa
open Go Go.RowKit Go.Proofs

theorem tn_small {p : Int × Int} (h : Small p.1 ∧ Small p.2) : ∀ k, Small (tn k p).1 ∧ Small (tn k p).2
  | 0 => h
  | k + 1 => by
    have ih := tn_small h k
    show Small (-(tn k p).2) ∧ Small (tn k p).1
    unfold Small at *
    omega

theorem mir_small {p : Int × Int} (h : Small p.1 ∧ Small p.2) (b : Bool) : Small (mir b p).1 ∧ Small (mir b p).2 := by
  cases b
  · exact h
  · show Small (-p.1) ∧ Small p.2
    unfold Small at *
    omega

theorem vMo_parts {t x y : Int} (h : vMo t x y = true) : (0 ≤ t ∧ t ≤ 3) ∧ Small x ∧ Small y := by
  unfold vMo withinB at h
  simp only [Bool.and_eq_true, decide_eq_true_eq] at h
  unfold Small
  omega

/-- A motion in a block of its own. -/
def Mb (w : World) (b : Nat) (t : Int) (m : Bool) (x y : Int) (ty : TypeId) : Prop := w.heap[b]? = some (.cells #[.int .i64 t, .bool m, .int .i64 x, .int .i64 y] ty (0, 0))

theorem Mb.lt {w : World} {b : Nat} {t x y : Int} {m : Bool} {ty : TypeId} (h : Mb w b t m x y ty) : b < w.heap.size := (Array.getElem?_eq_some_iff.1 h).1
theorem Mb.c0 {w : World} {b : Nat} {t x y : Int} {m : Bool} {ty : TypeId} (h : Mb w b t m x y ty) : w.cell? ⟨b, 0, none⟩ = some (.int .i64 t) := cell_at h rfl
theorem Mb.c1 {w : World} {b : Nat} {t x y : Int} {m : Bool} {ty : TypeId} (h : Mb w b t m x y ty) : w.cell? ⟨b, 1, none⟩ = some (.bool m) := cell_at h rfl
theorem Mb.c2 {w : World} {b : Nat} {t x y : Int} {m : Bool} {ty : TypeId} (h : Mb w b t m x y ty) : w.cell? ⟨b, 2, none⟩ = some (.int .i64 x) := cell_at h rfl
theorem Mb.c3 {w : World} {b : Nat} {t x y : Int} {m : Bool} {ty : TypeId} (h : Mb w b t m x y ty) : w.cell? ⟨b, 3, none⟩ = some (.int .i64 y) := cell_at h rfl
theorem Mb.f {w : World} {b : Nat} {t x y : Int} {m : Bool} {ty : TypeId} (h : Mb w b t m x y ty) (k : Nat) : w.frozen? ⟨b, k, none⟩ = false := thaw_at h
theorem Mb.new (w : World) (t : Int) (m : Bool) (x y : Int) (ty : TypeId) : Mb (w.alloc (.cells #[.int .i64 t, .bool m, .int .i64 x, .int .i64 y] ty)) w.heap.size t m x y ty := World.alloc_heap_new _ _
theorem Mb.alloc {w : World} {b : Nat} {t x y : Int} {m : Bool} {ty : TypeId} (h : Mb w b t m x y ty) (o : Obj) : Mb (w.alloc o) b t m x y ty := (heap_old w o h.lt).trans h
theorem Mb.keep {w w' : World} {b : Nat} {t x y : Int} {m : Bool} {ty : TypeId} (h : Mb w b t m x y ty) (hb : Below w.heap.size w w') : Mb w' b t m x y ty := (hb.block b h.lt).trans h
theorem Mb.other {w : World} {b : Nat} {t x y : Int} {m : Bool} {ty : TypeId} (h : Mb w b t m x y ty) {c o : Nat} (v : Value) (hn : b ≠ c) : Mb (w.setCell ⟨c, o, none⟩ v) b t m x y ty := (Below.heap_setCell _ _ _ _ hn).trans h

theorem ap_start (w : World) (t : Int) (b : Bool) (x y px py : Int) (ty : TypeId) : let W := (((w.alloc (.cells #[.int .i64 t, .bool b, .int .i64 x, .int .i64 y] ty)).alloc (ptObj px py)).alloc (ptObj 0 0))
    Mb W w.heap.size t b x y ty ∧ Pb W (w.heap.size + 1) px py ∧ Pb W (w.heap.size + 1 + 1) 0 0 ∧ Below w.heap.size w W := by
  have s1 : ∀ (v : World) (o : Obj), (v.alloc o).heap.size = v.heap.size + 1 := fun v o => by simp
  refine ⟨((Mb.new w t b x y ty).alloc _).alloc _, ?_, ?_, (((Below.refl _ _).alloc (by simp) _).alloc (by simp) _).alloc (by simp; omega) _⟩
  · have := (Pb.new (w.alloc (.cells #[.int .i64 t, .bool b, .int .i64 x, .int .i64 y] ty)) px py).alloc (ptObj 0 0)
    rwa [s1] at this
  · have := Pb.new ((w.alloc (.cells #[.int .i64 t, .bool b, .int .i64 x, .int .i64 y] ty)).alloc (ptObj px py)) 0 0
    rwa [s1, s1] at this

set_option maxRecDepth 100000 in
set_option maxHeartbeats 2000000 in
theorem apply_any (t x y px py : Int) (b : Bool) (w : World) (hm : vMo t x y = true) (hp : Small px ∧ Small py) :
    Calls Try.prog 105 #[mo t b x y, pt px py] w fun e w' => e = .returned (pt (mvP b t.toNat x y (px, py)).1 (mvP b t.toNat x y (px, py)).2) ∧ Below w.heap.size w w' := by
  obtain ⟨⟨h0, h3⟩, hx, hy⟩ := vMo_parts hm
  clear hm
  obtain ⟨n, rfl⟩ : ∃ n : Nat, t = (n : Int) := ⟨t.toNat, by omega⟩
  rw [Int.toNat_natCast]
  have hq := mir_small (p := (px, py)) hp b
  obtain ⟨q, hqe⟩ : ∃ q, mir b (px, py) = q := ⟨_, rfl⟩
  have HT := Lib.hid (fun k => tn_small (p := q) (by rw [← hqe]; exact hq) k)
  have HQ := Lib.hid hqe
  have HM : Hid (mvP b n x y (px, py) = ((tn n q).1 + x, (tn n q).2 + y)) := Lib.hid (by unfold mvP; rw [hqe])
  obtain ⟨r, hr⟩ : ∃ r, mvP b n x y (px, py) = r := ⟨_, rfl⟩
  rw [hr] at HM ⊢
  clear hr hqe hq
  obtain ⟨⟨p1, p2⟩, p3, p4⟩ := hp
  cases b
  · go_enter Try.func105, Try.ntmps105
    go_wp2_with fail
    obtain ⟨f0, f1, f2, bel⟩ := ap_start w n false x y px py 112
    go_loopw [13] (fun i wr => ∃ k : Nat, k ≤ n ∧ i = .int .i64 k ∧ Mb wr w.heap.size n false x y 112 ∧ Pb wr (w.heap.size + 1) (tn k q).1 (tn k q).2 ∧ Pb wr (w.heap.size + 1 + 1) 0 0 ∧ Below w.heap.size w wr) (fun i _ => n - (intOf i).toNat)
    case atStart => exact ⟨0, Nat.zero_le _, rfl, f0, by rw [← HQ.out]; exact f1, f2, bel⟩
    case round =>
      clear f0 f1 f2 bel
      obtain ⟨k, hk, rfl, g0, g1, g2, hbel⟩ := hrel
      by_cases hlt : k < n
      · have j1 : (k : Int) < (n : Int) := by omega
        have HS : Hid (tn (k + 1) q = (-(tn k q).2, (tn k q).1)) := Lib.hid rfl
        obtain ⟨⟨a1, a2⟩, a3, a4⟩ := HT.out k
        obtain ⟨u, hu⟩ : ∃ u, (tn k q).1 = u := ⟨_, rfl⟩
        obtain ⟨v, hv⟩ : ∃ v, (tn k q).2 = v := ⟨_, rfl⟩
        rw [hu] at a1 a2 g1 HS
        rw [hv] at a3 a4 g1 HS
        clear hu hv
        have c0 := g1.c0
        have c1 := g1.c1
        have z0 := g1.f 0
        have z1 := g1.f 1
        go_wp2
        refine ⟨⟨k + 1, by omega, by simp, (g0.other _ (by omega)).other _ (by omega), ?_, (g2.other _ (by omega)).other _ (by omega), ?_⟩, by simp [intOf]; omega⟩
        · rw [HS.out]
          exact g1.set _ _
        · exact (hbel.setCell (by simp) _).setCell (by simp) _
      · obtain rfl : k = n := by omega
        obtain ⟨⟨a1, a2⟩, a3, a4⟩ := HT.out k
        obtain ⟨u, hu⟩ : ∃ u, (tn k q).1 = u := ⟨_, rfl⟩
        obtain ⟨v, hv⟩ : ∃ v, (tn k q).2 = v := ⟨_, rfl⟩
        rw [hu] at a1 a2 g1 HM
        rw [hv] at a3 a4 g1 HM
        clear hu hv
        have c0 := g1.c0
        have c1 := g1.c1
        have d2 := g0.c2
        have d3 := g0.c3
        have e0 := g2.c0
        have e1 := g2.c1
        have z0 := g2.f 0
        have z1 := g2.f 1
        obtain ⟨x1, x2⟩ := hx
        obtain ⟨y1, y2⟩ := hy
        go_wp2
        refine bodyPost_ret (v := pt r.1 r.2) ?_ rfl ⟨rfl, (hbel.setCell (by show w.heap.size ≤ w.heap.size + 1 + 1; omega) _).setCell (by show w.heap.size ≤ w.heap.size + 1 + 1; omega) _⟩
        rw [HM.out]
        exact res_cell (fn := Try.f105) rfl _ (by rfl) (g2.set _ _).load
  · go_enter Try.func105, Try.ntmps105
    go_wp2_with fail
    obtain ⟨f0, f1, f2, bel⟩ := ap_start w n true x y (-px) py 112
    go_loopw [13] (fun i wr => ∃ k : Nat, k ≤ n ∧ i = .int .i64 k ∧ Mb wr w.heap.size n true x y 112 ∧ Pb wr (w.heap.size + 1) (tn k q).1 (tn k q).2 ∧ Pb wr (w.heap.size + 1 + 1) 0 0 ∧ Below w.heap.size w wr) (fun i _ => n - (intOf i).toNat)
    case atStart => exact ⟨0, Nat.zero_le _, rfl, f0, by rw [← HQ.out]; exact f1, f2, bel⟩
    case round =>
      clear f0 f1 f2 bel
      obtain ⟨k, hk, rfl, g0, g1, g2, hbel⟩ := hrel
      by_cases hlt : k < n
      · have j1 : (k : Int) < (n : Int) := by omega
        have HS : Hid (tn (k + 1) q = (-(tn k q).2, (tn k q).1)) := Lib.hid rfl
        obtain ⟨⟨a1, a2⟩, a3, a4⟩ := HT.out k
        obtain ⟨u, hu⟩ : ∃ u, (tn k q).1 = u := ⟨_, rfl⟩
        obtain ⟨v, hv⟩ : ∃ v, (tn k q).2 = v := ⟨_, rfl⟩
        rw [hu] at a1 a2 g1 HS
        rw [hv] at a3 a4 g1 HS
        clear hu hv
        have c0 := g1.c0
        have c1 := g1.c1
        have z0 := g1.f 0
        have z1 := g1.f 1
        go_wp2
        refine ⟨⟨k + 1, by omega, by simp, (g0.other _ (by omega)).other _ (by omega), ?_, (g2.other _ (by omega)).other _ (by omega), ?_⟩, by simp [intOf]; omega⟩
        · rw [HS.out]
          exact g1.set _ _
        · exact (hbel.setCell (by simp) _).setCell (by simp) _
      · obtain rfl : k = n := by omega
        obtain ⟨⟨a1, a2⟩, a3, a4⟩ := HT.out k
        obtain ⟨u, hu⟩ : ∃ u, (tn k q).1 = u := ⟨_, rfl⟩
        obtain ⟨v, hv⟩ : ∃ v, (tn k q).2 = v := ⟨_, rfl⟩
        rw [hu] at a1 a2 g1 HM
        rw [hv] at a3 a4 g1 HM
        clear hu hv
        have c0 := g1.c0
        have c1 := g1.c1
        have d2 := g0.c2
        have d3 := g0.c3
        have e0 := g2.c0
        have e1 := g2.c1
        have z0 := g2.f 0
        have z1 := g2.f 1
        obtain ⟨x1, x2⟩ := hx
        obtain ⟨y1, y2⟩ := hy
        go_wp2
        refine bodyPost_ret (v := pt r.1 r.2) ?_ rfl ⟨rfl, (hbel.setCell (by show w.heap.size ≤ w.heap.size + 1 + 1; omega) _).setCell (by show w.heap.size ≤ w.heap.size + 1 + 1; omega) _⟩
        rw [HM.out]
        exact res_cell (fn := Try.f105) rfl _ (by rfl) (g2.set _ _).load

end Go.Proofs.Ytlocdadkhdcedaa

/- Walks: the reference's turned, Moved. -/
namespace Go.Proofs.Ytlocdadkhdcedaa
open Go Go.RowKit Go.Proofs

theorem tu_start (w : World) (px py qx qy : Int) : let W := (w.alloc (ptObj px py)).alloc (ptObj qx qy)
    Pb W w.heap.size px py ∧ Pb W (w.heap.size + 1) qx qy ∧ Below w.heap.size w W := by
  have s1 : ∀ (v : World) (o : Obj), (v.alloc o).heap.size = v.heap.size + 1 := fun v o => by simp
  refine ⟨(Pb.new w px py).alloc _, ?_, ((Below.refl _ _).alloc (by simp) _).alloc (by simp) _⟩
  have := Pb.new (w.alloc (ptObj px py)) qx qy
  rwa [s1] at this

set_option maxRecDepth 100000 in
set_option maxHeartbeats 2000000 in
theorem turned_any (q : Int × Int) (n : Nat) (w : World) (hq : Small q.1 ∧ Small q.2) (hn : n ≤ 3) :
    Calls Try.prog 141 #[pt q.1 q.2, .int .i64 n] w fun e w' => e = .returned (pt (tn n q).1 (tn n q).2) ∧ Below w.heap.size w w' := by
  have HT := Lib.hid (fun k => tn_small hq k)
  obtain ⟨r, hr⟩ : ∃ r, tn n q = r := ⟨_, rfl⟩
  rw [hr]
  have HM := Lib.hid hr
  clear hr hq
  obtain ⟨f1, f2, bel⟩ := tu_start w q.1 q.2 0 0
  go_enter Try.func141, Try.ntmps141
  go_wp2_with fail
  go_loopw [5] (fun i wr => ∃ k : Nat, k ≤ n ∧ i = .int .i64 k ∧ Pb wr w.heap.size (tn k q).1 (tn k q).2 ∧ Pb wr (w.heap.size + 1) 0 0 ∧ Below w.heap.size w wr) (fun i _ => n - (intOf i).toNat)
  case atStart => exact ⟨0, Nat.zero_le _, rfl, f1, f2, bel⟩
  case round =>
    clear f1 f2 bel
    obtain ⟨k, hk, rfl, g1, g2, hbel⟩ := hrel
    obtain ⟨⟨a1, a2⟩, a3, a4⟩ := HT.out k
    have HS : Hid (tn (k + 1) q = (-(tn k q).2, (tn k q).1)) := Lib.hid rfl
    have HK : Hid (k = n → r = ((tn k q).1, (tn k q).2)) := Lib.hid (fun e => by rw [← HM.out, e])
    obtain ⟨u, hu⟩ : ∃ u, (tn k q).1 = u := ⟨_, rfl⟩
    obtain ⟨v, hv⟩ : ∃ v, (tn k q).2 = v := ⟨_, rfl⟩
    rw [hu] at a1 a2 g1 HS HK
    rw [hv] at a3 a4 g1 HS HK
    clear hu hv
    have c0 := g1.c0
    have c1 := g1.c1
    by_cases hlt : k < n
    · have j1 : (k : Int) < (n : Int) := by omega
      have z0 := g1.f 0
      have z1 := g1.f 1
      go_wp2
      refine ⟨⟨k + 1, by omega, by simp, ?_, (g2.other _ (by omega)).other _ (by omega), ?_⟩, by simp [intOf]; omega⟩
      · rw [HS.out]
        have e : (0 : Int) - v = -v := by omega
        first | exact g1.set _ _ | (rw [← e]; exact g1.set _ _)
      · exact (hbel.setCell (by simp) _).setCell (by simp) _
    · obtain rfl : k = n := by omega
      have e0 := g2.c0
      have e1 := g2.c1
      have z0 := g2.f 0
      have z1 := g2.f 1
      have HR := Lib.hid (HK.out rfl)
      clear HK
      go_wp2
      refine bodyPost_ret (v := pt r.1 r.2) ?_ rfl ⟨rfl, (hbel.setCell (by show w.heap.size ≤ w.heap.size + 1; omega) _).setCell (by show w.heap.size ≤ w.heap.size + 1; omega) _⟩
      rw [HR.out]
      exact res_cell (fn := Try.f141) rfl _ (by rfl) (g2.set _ _).load

theorem mv_start (w : World) (t : Int) (b : Bool) (x y px py : Int) : let W := (((w.alloc (ptObj px py)).alloc (.cells #[.int .i64 t, .bool b, .int .i64 x, .int .i64 y] 49)).alloc (ptObj 0 0))
    Pb W w.heap.size px py ∧ Mb W (w.heap.size + 1) t b x y 49 ∧ Pb W (w.heap.size + 1 + 1) 0 0 ∧ Below w.heap.size w W ∧ w.heap.size + 3 ≤ W.heap.size := by
  have s1 : ∀ (v : World) (o : Obj), (v.alloc o).heap.size = v.heap.size + 1 := fun v o => by simp
  refine ⟨((Pb.new w px py).alloc _).alloc _, ?_, ?_, (((Below.refl _ _).alloc (by simp) _).alloc (by simp) _).alloc (by simp; omega) _, by simp⟩
  · have := (Mb.new (w.alloc (ptObj px py)) t b x y 49).alloc (ptObj 0 0)
    rwa [s1] at this
  · have := Pb.new ((w.alloc (ptObj px py)).alloc (.cells #[.int .i64 t, .bool b, .int .i64 x, .int .i64 y] 49)) 0 0
    rwa [s1, s1] at this

set_option maxRecDepth 100000 in
set_option maxHeartbeats 2000000 in
theorem moved_any (t x y px py : Int) (b : Bool) (w : World) (hm : vMo t x y = true) (hp : Small px ∧ Small py) :
    Calls Try.prog 107 #[pt px py, mo t b x y] w fun e w' => e = .returned (pt (mvP b t.toNat x y (px, py)).1 (mvP b t.toNat x y (px, py)).2) ∧ Below w.heap.size w w' := by
  obtain ⟨⟨h0, h3⟩, hx, hy⟩ := vMo_parts hm
  clear hm
  obtain ⟨n, rfl⟩ : ∃ n : Nat, t = (n : Int) := ⟨t.toNat, by omega⟩
  rw [Int.toNat_natCast]
  have hq := mir_small (p := (px, py)) hp b
  have CT := fun w => turned_any (mir b (px, py)) n w hq (by omega)
  obtain ⟨⟨a1, a2⟩, a3, a4⟩ := tn_small hq n
  have HM : Hid (mvP b n x y (px, py) = ((tn n (mir b (px, py))).1 + x, (tn n (mir b (px, py))).2 + y)) := Lib.hid rfl
  obtain ⟨u, hu⟩ : ∃ u, (tn n (mir b (px, py))).1 = u := ⟨_, rfl⟩
  obtain ⟨v, hv⟩ : ∃ v, (tn n (mir b (px, py))).2 = v := ⟨_, rfl⟩
  rw [hu] at CT a1 a2 HM
  rw [hv] at CT a3 a4 HM
  obtain ⟨r, hr⟩ : ∃ r, mvP b n x y (px, py) = r := ⟨_, rfl⟩
  rw [hr] at HM ⊢
  clear hr hq hu hv
  obtain ⟨⟨p1, p2⟩, p3, p4⟩ := hp
  obtain ⟨x1, x2⟩ := hx
  obtain ⟨y1, y2⟩ := hy
  cases b
  · obtain ⟨f0, f1, f2, bel, hsz⟩ := mv_start w n false x y px py
    go_enter Try.func107, Try.ntmps107
    go_wp2_with fail
    refine (CT _).mono ?_
    rintro e w1 ⟨rfl, hb⟩
    replace f1 := (f1.keep hb).alloc (ptObj u v)
    replace f2 := (f2.keep hb).alloc (ptObj u v)
    replace hsz := Nat.le_trans hsz hb.size
    replace bel := keep_below bel hb
    have f3 := Pb.new w1 u v
    replace bel := bel.alloc bel.size (ptObj u v)
    clear hb f0
    have c0 := f3.c0
    have c1 := f3.c1
    have d2 := f1.c2
    have d3 := f1.c3
    have e0 := f2.c0
    have e1 := f2.c1
    have z0 := f2.f 0
    have z1 := f2.f 1
    go_wp2
    refine bodyPost_ret (v := pt r.1 r.2) ?_ rfl ⟨rfl, (bel.setCell (by show w.heap.size ≤ w.heap.size + 1 + 1; omega) _).setCell (by show w.heap.size ≤ w.heap.size + 1 + 1; omega) _⟩
    rw [HM.out]
    exact res_cell (fn := Try.f107) rfl _ (by rfl) (f2.set _ _).load
  · obtain ⟨f0, f1, f2, bel, hsz⟩ := mv_start w n true x y (-px) py
    go_enter Try.func107, Try.ntmps107
    go_wp2_with fail
    refine (CT _).mono ?_
    rintro e w1 ⟨rfl, hb⟩
    replace f1 := (f1.keep hb).alloc (ptObj u v)
    replace f2 := (f2.keep hb).alloc (ptObj u v)
    replace hsz := Nat.le_trans hsz hb.size
    replace bel := keep_below bel hb
    have f3 := Pb.new w1 u v
    replace bel := bel.alloc bel.size (ptObj u v)
    clear hb f0
    have c0 := f3.c0
    have c1 := f3.c1
    have d2 := f1.c2
    have d3 := f1.c3
    have e0 := f2.c0
    have e1 := f2.c1
    have z0 := f2.f 0
    have z1 := f2.f 1
    go_wp2
    refine bodyPost_ret (v := pt r.1 r.2) ?_ rfl ⟨rfl, (bel.setCell (by show w.heap.size ≤ w.heap.size + 1 + 1; omega) _).setCell (by show w.heap.size ≤ w.heap.size + 1 + 1; omega) _⟩
    rw [HM.out]
    exact res_cell (fn := Try.f107) rfl _ (by rfl) (f2.set _ _).load

end Go.Proofs.Ytlocdadkhdcedaa
