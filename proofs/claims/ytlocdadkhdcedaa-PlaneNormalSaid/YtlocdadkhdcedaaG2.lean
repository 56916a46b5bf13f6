/- Walks: Compose. -/
import Derived.Test.YtlocdadkhdcedaaGA
import Derived.Deep.MidRow
namespace Go.Proofs.Ytlocdadkhdcedaa
open Go Go.RowKit Go.Proofs

/-- Two settings in their boxes, and room for a third. -/
structure Sts (w : World) (s : Int) (b : Bool) (t : Int) (c : Bool) (r0 r1 : Value) (w' : World) : Prop where
  bel : Below w.heap.size w w'
  n : w.heap.size + 3 ≤ w'.heap.size
  c0 : w'.cell? ⟨w.heap.size, 0, none⟩ = some (.int .i64 s)
  c1 : w'.cell? ⟨w.heap.size, 1, none⟩ = some (.bool b)
  c2 : w'.cell? ⟨w.heap.size + 1, 0, none⟩ = some (.int .i64 t)
  c3 : w'.cell? ⟨w.heap.size + 1, 1, none⟩ = some (.bool c)
  c4 : w'.cell? ⟨w.heap.size + 1 + 1, 0, none⟩ = some r0
  c5 : w'.cell? ⟨w.heap.size + 1 + 1, 1, none⟩ = some r1
  f4 : w'.frozen? ⟨w.heap.size + 1 + 1, 0, none⟩ = false
  f5 : w'.frozen? ⟨w.heap.size + 1 + 1, 1, none⟩ = false

variable {w w1 w2 : World} {s t : Int} {b c : Bool} {r0 r1 : Value}

theorem keep_frozen {w w' : World} {b o : Nat} {v : Bool} {x : Value} (hb : Below w.heap.size w w') (hc : w.cell? ⟨b, o, none⟩ = some x) (h : w.frozen? ⟨b, o, none⟩ = v) : w'.frozen? ⟨b, o, none⟩ = v := (hb.frozen (lt_of_cell hc)).trans h

theorem keep_there {w w' : World} {b o n : Nat} (hb : Below w.heap.size w w') (h : w.there b o n) : w'.there b o n := by
  intro j hj
  obtain ⟨h1, h2⟩ := h j hj
  obtain ⟨v, hv⟩ := Option.isSome_iff_exists.1 h1
  exact ⟨by rw [keep_cell hb hv]; rfl, keep_frozen hb hv h2⟩

/-- What a cell holds. -/
def cellV (w : World) (p : Addr) : Value := (w.cell? p).getD undef

theorem cellV_of {w : World} {p : Addr} {v : Value} (h : w.cell? p = some v) : w.cell? p = some (cellV w p) := by unfold cellV; rw [h]; rfl

theorem keep_cellV {w w' : World} {b o : Nat} (hb : Below w.heap.size w w') (h : w.cell? ⟨b, o, none⟩ = some (cellV w ⟨b, o, none⟩)) : w'.cell? ⟨b, o, none⟩ = some (cellV w' ⟨b, o, none⟩) := cellV_of (keep_cell hb h)

theorem set_cell {w : World} {p q : Addr} {v x : Value} (hne : p ≠ q) (h : w.cell? p = some x) : (w.setCell q v).cell? p = some x := by
  rw [World.cell?_setCell_other (h := Ne.symm hne)]; exact h

theorem new_cell {w : World} {p : Addr} {v x : Value} (h : w.cell? p = some x) : (w.setCell p v).cell? p = some v := World.cell?_setCell_same _ _ _ h

theorem set_cellV {w : World} {p q : Addr} {v : Value} (h : w.cell? p = some (cellV w p)) : (w.setCell q v).cell? p = some (cellV (w.setCell q v) p) := by
  obtain ⟨u, hu⟩ := cell?_setCell_some (w := w) (p := q) (x := v) (q := p) h
  exact cellV_of hu

theorem set_frozen {w : World} {p q : Addr} {v : Value} {x : Bool} (h : w.frozen? p = x) : (w.setCell q v).frozen? p = x := by
  rw [World.frozen?_setCell]; exact h

theorem Sts.keep (h : Sts w s b t c r0 r1 w1) (hb : Below w1.heap.size w1 w2) : Sts w s b t c r0 r1 w2 :=
  ⟨keep_below h.bel hb, Nat.le_trans h.n hb.size, keep_cell hb h.c0, keep_cell hb h.c1, keep_cell hb h.c2, keep_cell hb h.c3, keep_cell hb h.c4, keep_cell hb h.c5, keep_frozen hb h.c4 h.f4, keep_frozen hb h.c5 h.f5⟩

theorem Sts.start (w : World) (s : Int) (b : Bool) (t : Int) (c : Bool) : Sts w s b t c (.int .i64 0) (.bool false) (((w.alloc (stObj s b)).alloc (stObj t c)).alloc (stObj 0 false)) := by
  have s1 : ∀ (v : World) (o : Obj), (v.alloc o).heap.size = v.heap.size + 1 := fun v o => by simp
  have n1 := st_new w s b
  have n2 := st_new (w.alloc (stObj s b)) t c
  have n3 := st_new ((w.alloc (stObj s b)).alloc (stObj t c)) 0 false
  simp only [s1] at n2 n3
  refine ⟨(((Below.refl _ _).alloc (by simp) _).alloc (by simp) _).alloc (by simp; omega) _, by simp, pt_old _ _ (pt_old _ _ n1.1), pt_old _ _ (pt_old _ _ n1.2), pt_old _ _ n2.1, pt_old _ _ n2.2, n3.1, n3.2, ?_, ?_⟩ <;> go_simp

set_option maxHeartbeats 1000000 in
theorem compose_any (s t n : Int) (b c : Bool) (w : World) (h : vset s n = true) (h' : vset t n = true) :
    Calls Try.prog 55 #[st s b, st t c, .int .i64 n] w fun e w' => e = .returned (.tuple #[st (Plain.ed t c n s) (b != c), .int .i64 0]) ∧ Below w.heap.size w w' := by
  have hh := h
  simp only [vset, Bool.and_eq_true, decide_eq_true_eq] at hh
  obtain ⟨⟨⟨a1, a2⟩, a3⟩, a4⟩ := hh
  have hh := h'
  simp only [vset, Bool.and_eq_true, decide_eq_true_eq] at hh
  obtain ⟨⟨⟨_, _⟩, a5⟩, a6⟩ := hh
  go_enter Try.func55, Try.ntmps55
  go_wp2_with fail
  refine (validSetting_any _ _ _ _).mono ?_
  rintro e w1 ⟨rfl, hb⟩
  rw [h]
  have hS := (Sts.start w s b t c).keep hb
  clear hb
  obtain ⟨_, _, c0, c1, c2, c3, c4, c5, f4, f5⟩ := id hS
  go_wp2_with fail
  refine (validSetting_any _ _ _ _).mono ?_
  rintro e w2 ⟨rfl, hb⟩
  rw [h']
  replace hS := hS.keep hb
  clear hb c0 c1 c2 c3 c4 c5 f4 f5
  obtain ⟨hbe, hsz, c0, c1, c2, c3, c4, c5, f4, f5⟩ := hS
  go_wp2_with fail
  have v4 := cellV_of c4
  have v5 := cellV_of c5
  go_region_held3 (fun w' => Below w.heap.size w w' ∧ w'.cell? ⟨w.heap.size, 0, none⟩ = some (.int .i64 s) ∧ w'.cell? ⟨w.heap.size, 1, none⟩ = some (.bool b) ∧ w'.cell? ⟨w.heap.size + 1, 0, none⟩ = some (.int .i64 t) ∧ w'.cell? ⟨w.heap.size + 1, 1, none⟩ = some (.bool c) ∧ 
     w'.cell? ⟨w.heap.size + 1 + 1, 0, none⟩ = some (cellV w' ⟨w.heap.size + 1 + 1, 0, none⟩) ∧ w'.cell? ⟨w.heap.size + 1 + 1, 1, none⟩ = some (cellV w' ⟨w.heap.size + 1 + 1, 1, none⟩) ∧ w'.frozen? ⟨w.heap.size + 1 + 1, 0, none⟩ = false ∧ w'.frozen? ⟨w.heap.size + 1 + 1, 1, none⟩ = false)
    (first
      | exact ⟨hbe.drew, by simpa using c0, by simpa using c1, by simpa using c2, by simpa using c3, v4, v5, by simpa using f4, by simpa using f5⟩
      | (go_split_ands
         (repeat' apply And.intro) <;> first | assumption | exact keep_below (by assumption) (by assumption) | exact keep_cell (by assumption) (by assumption) | exact keep_cellV (by assumption) (by assumption) | exact keep_frozen (by assumption) (by assumption) (by assumption))
      | (go_split_ands
         (repeat' apply And.intro) <;> first
           | exact Below.setCell (Below.setCell (by assumption) (by simp; omega) _) (by simp; omega) _
           | exact set_cell (by simp) (set_cell (by simp) (by assumption))
           | exact set_cellV (set_cellV (by assumption))
           | exact set_frozen (set_frozen (by assumption))))
    (first
      | (go_at_call 113; refine (edge_any _ _ _ _ _ (by assumption) (by assumption) (by assumption) (by assumption) (by assumption) (by assumption)).mono ?_; rintro e w' ⟨rfl, hb⟩))
  go_wp2
  go_split_ands
  refine bodyPost_ret (v := .tuple #[st (Plain.ed t c n s) (b != c), .int .i64 0]) ?_ rfl ⟨rfl, by assumption⟩
  rename_i k4 k5 g4 g5
  clear k4 k5
  have d4 := keep_cell hb c4
  have d5 := keep_cell hb c5
  have q4 := set_cell (q := ⟨w.heap.size + 1 + 1, 1, none⟩) (v := .bool !b == c) (by simp) (new_cell (v := .int .i64 (Plain.ed t c n s)) d4)
  have q5 := new_cell (v := .bool !b == c) (set_cell (q := ⟨w.heap.size + 1 + 1, 0, none⟩) (v := .int .i64 (Plain.ed t c n s)) (by simp) d5)
  simp [results, Try.results55, go_sem, q4, q5]
  cases b <;> cases c <;> rfl

set_option maxHeartbeats 1000000 in
theorem inverse_any (s n : Int) (b : Bool) (w : World) (h : vset s n = true) :
    Calls Try.prog 57 #[st s b, .int .i64 n] w fun e w' => e = .returned (.tuple #[st (Plain.inv s b n) b, .int .i64 0]) ∧ Below w.heap.size w w' := by
  have hh := h
  simp only [vset, Bool.and_eq_true, decide_eq_true_eq] at hh
  obtain ⟨⟨⟨a1, a2⟩, a3⟩, a4⟩ := hh
  have E2 := Lib.hid (Plain.inv_forth a3 a4)
  have p1 : 0 ≤ n - s := by omega
  have p2 : n - s ≤ 24 := by omega
  go_enter Try.func57, Try.ntmps57
  go_wp2_with fail
  refine (validSetting_any _ _ _ _).mono ?_
  rintro e w1 ⟨rfl, hb⟩
  rw [h]
  have s1 : ∀ (v : World) (o : Obj), (v.alloc o).heap.size = v.heap.size + 1 := fun v o => by simp
  have n1 := st_new w s b
  have n2 := st_new (w.alloc (stObj s b)) 0 false
  simp only [s1] at n2
  have f1 : ((w.alloc (stObj s b)).alloc (stObj 0 false)).frozen? ⟨w.heap.size, 0, none⟩ = false := by go_simp
  have f2 : ((w.alloc (stObj s b)).alloc (stObj 0 false)).frozen? ⟨w.heap.size, 1, none⟩ = false := by go_simp
  have f4 : ((w.alloc (stObj s b)).alloc (stObj 0 false)).frozen? ⟨w.heap.size + 1, 0, none⟩ = false := by go_simp
  have f5 : ((w.alloc (stObj s b)).alloc (stObj 0 false)).frozen? ⟨w.heap.size + 1, 1, none⟩ = false := by go_simp
  have b0 : Below w.heap.size w ((w.alloc (stObj s b)).alloc (stObj 0 false)) := ((Below.refl _ _).alloc (by simp) _).alloc (by simp) _
  have o1 := pt_old _ (stObj 0 false) n1.1
  have o2 := pt_old _ (stObj 0 false) n1.2
  replace f1 := keep_frozen hb o1 f1
  replace f2 := keep_frozen hb o2 f2
  replace f4 := keep_frozen hb n2.1 f4
  replace f5 := keep_frozen hb n2.2 f5
  have c0 := keep_cell hb o1
  have c1 := keep_cell hb o2
  have c2 := keep_cell hb n2.1
  have c3 := keep_cell hb n2.2
  replace b0 := keep_below b0 hb
  clear hb o1 o2 n1 n2 s1
  cases b
  · have e3 : -s % n = Plain.inv s false n := by
      have := E2.out
      rw [← this, Int.sub_emod_left]
    have E3 := Lib.hid e3
    clear e3
    go_wp2
    refine bodyPost_ret (v := .tuple #[st (Plain.inv s false n) false, .int .i64 0]) ?_ rfl ⟨rfl, ?_⟩
    · have d4 := set_cell (q := ⟨w.heap.size, 0, none⟩) (v := .int .i64 (-s % n)) (by simp) c2
      have d5 := set_cell (q := ⟨w.heap.size, 0, none⟩) (v := .int .i64 (-s % n)) (by simp) c3
      have q4 := set_cell (q := ⟨w.heap.size + 1, 1, none⟩) (v := .bool false) (by simp) (new_cell (v := .int .i64 (-s % n)) d4)
      have q5 := new_cell (v := .bool false) (set_cell (q := ⟨w.heap.size + 1, 0, none⟩) (v := .int .i64 (-s % n)) (by simp) d5)
      simp [results, Try.results57, go_sem, q4, q5]
      exact E3.out
    · exact Below.setCell (Below.setCell (Below.setCell b0 (by simp) _) (by simp) _) (by simp) _
  · go_wp2
    refine bodyPost_ret (v := .tuple #[st (Plain.inv s true n) true, .int .i64 0]) ?_ rfl ⟨rfl, ?_⟩
    · have q4 := set_cell (q := ⟨w.heap.size + 1, 1, none⟩) (v := .bool true) (by simp) (new_cell (v := .int .i64 s) c2)
      have q5 := new_cell (v := .bool true) (set_cell (q := ⟨w.heap.size + 1, 0, none⟩) (v := .int .i64 s) (by simp) c3)
      simp [results, Try.results57, go_sem, q4, q5]
      rfl
    · exact Below.setCell (Below.setCell b0 (by simp) _) (by simp) _

end Go.Proofs.Ytlocdadkhdcedaa
