/- The abstract machine, part SC. -/
import Derived.Test.YtlocdadkhdcedaaSA
import Derived.Test.YtlocdadkhdcedaaG2
/- Walks: the reference's Compose, Inverse, Edge of valid settings. -/
namespace Go.Proofs.Ytlocdadkhdcedaa
open Go Go.RowKit Go.Proofs

set_option maxHeartbeats 1000000 in
theorem refCompose_in (s t n : Int) (b c : Bool) (w : World) (h : vset s n = true) (h' : vset t n = true) :
    Calls Try.prog 56 #[st s b, st t c, .int .i64 n] w fun e w' => e = .returned (.tuple #[st (Plain.ed t c n s) (b != c), .int .i64 0]) ∧ Below w.heap.size w w' := by
  have hh := h
  simp only [vset, Bool.and_eq_true, decide_eq_true_eq] at hh
  obtain ⟨⟨⟨a1, a2⟩, a3⟩, a4⟩ := hh
  have hh := h'
  simp only [vset, Bool.and_eq_true, decide_eq_true_eq] at hh
  obtain ⟨⟨⟨_, _⟩, a5⟩, a6⟩ := hh
  go_enter Try.func56, Try.ntmps56
  go_wp2_with fail
  refine (refSetting_any _ _ _ _).mono ?_
  rintro e w1 ⟨rfl, hb⟩
  rw [h]
  have hS := (Sts.start w s b t c).keep hb
  clear hb
  obtain ⟨_, _, c0, c1, c2, c3, c4, c5, f4, f5⟩ := id hS
  go_wp2_with fail
  refine (refSetting_any _ _ _ _).mono ?_
  rintro e w2 ⟨rfl, hb⟩
  rw [h']
  replace hS := hS.keep hb
  clear hb c0 c1 c2 c3 c4 c5 f4 f5
  obtain ⟨hbe, hsz, c0, c1, c2, c3, c4, c5, f4, f5⟩ := hS
  go_wp2_with fail
  have v4 := cellV_of c4
  have v5 := cellV_of c5
  go_region_held3 (fun w' => Below w.heap.size w w' ∧ w'.cell? ⟨w.heap.size, 0, none⟩ = some (.int .i64 s) ∧ w'.cell? ⟨w.heap.size, 1, none⟩ = some (.bool b) ∧ w'.cell? ⟨w.heap.size + 1, 0, none⟩ = some (.int .i64 t) ∧ w'.cell? ⟨w.heap.size + 1, 1, none⟩ = some (.bool c) ∧ 
     w'.cell? ⟨w.heap.size + 1 + 1, 0, none⟩ = some (cellV w' ⟨w.heap.size + 1 + 1, 0, none⟩) ∧ w'.cell? ⟨w.heap.size + 1 + 1, 1, none⟩ = some (cellV w' ⟨w.heap.size + 1 + 1, 1, none⟩) ∧ w'.frozen? ⟨w.heap.size + 1 + 1, 0, none⟩ = false ∧ w'.frozen? ⟨w.heap.size + 1 + 1, 1, none⟩ = false)
    (first
      | exact ⟨hbe.drew, by simpa using c0, by simpa using c1, by simpa using c2, by simpa using c3, v4, v5, by simpa using f4, by simpa using f5⟩
      | (go_split_ands
         (repeat' apply And.intro) <;> first | assumption | exact keep_below (by assumption) (by assumption) | exact keep_cell (by assumption) (by assumption) | exact keep_cellV (by assumption) (by assumption) | exact keep_frozen (by assumption) (by assumption) (by assumption))
      | (go_split_ands
         (repeat' apply And.intro) <;> first
           | exact Below.setCell (Below.setCell (by assumption) (by simp; omega) _) (by simp; omega) _
           | exact set_cell (by simp) (set_cell (by simp) (by assumption))
           | exact set_cellV (set_cellV (by assumption))
           | exact set_frozen (set_frozen (by assumption))))
    (first
      | (go_at_call 114; refine (refLaid_any _ _ _ _ _ (by assumption) (by assumption) (by assumption) (by assumption) (by assumption) (by assumption)).mono ?_; rintro e w' ⟨rfl, hb⟩))
  go_wp2
  go_split_ands
  refine bodyPost_ret (v := .tuple #[st (Plain.ed t c n s) (b != c), .int .i64 0]) ?_ rfl ⟨rfl, by assumption⟩
  rename_i k4 k5 g4 g5
  clear k4 k5
  have d4 := keep_cell hb c4
  have d5 := keep_cell hb c5
  have q4 := set_cell (q := ⟨w.heap.size + 1 + 1, 1, none⟩) (v := .bool !b == c) (by simp) (new_cell (v := .int .i64 (Plain.ed t c n s)) d4)
  have q5 := new_cell (v := .bool !b == c) (set_cell (q := ⟨w.heap.size + 1 + 1, 0, none⟩) (v := .int .i64 (Plain.ed t c n s)) (by simp) d5)
  simp [results, Try.results56, go_sem, q4, q5]
  cases b <;> cases c <;> rfl

set_option maxHeartbeats 1000000 in
theorem refInverse_in (s n : Int) (b : Bool) (w : World) (h : vset s n = true) :
    Calls Try.prog 58 #[st s b, .int .i64 n] w fun e w' => e = .returned (.tuple #[st (Plain.inv s b n) b, .int .i64 0]) ∧ Below w.heap.size w w' := by
  have hh := h
  simp only [vset, Bool.and_eq_true, decide_eq_true_eq] at hh
  obtain ⟨⟨⟨a1, a2⟩, a3⟩, a4⟩ := hh
  have E2 := Lib.hid (Plain.inv_forth a3 a4)
  have p1 : 0 ≤ n - s := by omega
  have p2 : n - s ≤ 24 := by omega
  go_enter Try.func58, Try.ntmps58
  go_wp2_with fail
  refine (refSetting_any _ _ _ _).mono ?_
  rintro e w1 ⟨rfl, hb⟩
  rw [h]
  have s1 : ∀ (v : World) (o : Obj), (v.alloc o).heap.size = v.heap.size + 1 := fun v o => by simp
  have n1 := st_new w s b
  have n2 := st_new (w.alloc (stObj s b)) 0 false
  simp only [s1] at n2
  have f1 : ((w.alloc (stObj s b)).alloc (stObj 0 false)).frozen? ⟨w.heap.size, 0, none⟩ = false := by go_simp
  have f2 : ((w.alloc (stObj s b)).alloc (stObj 0 false)).frozen? ⟨w.heap.size, 1, none⟩ = false := by go_simp
  have f4 : ((w.alloc (stObj s b)).alloc (stObj 0 false)).frozen? ⟨w.heap.size + 1, 0, none⟩ = false := by go_simp
  have f5 : ((w.alloc (stObj s b)).alloc (stObj 0 false)).frozen? ⟨w.heap.size + 1, 1, none⟩ = false := by go_simp
  have b0 : Below w.heap.size w ((w.alloc (stObj s b)).alloc (stObj 0 false)) := ((Below.refl _ _).alloc (by simp) _).alloc (by simp) _
  have o1 := pt_old _ (stObj 0 false) n1.1
  have o2 := pt_old _ (stObj 0 false) n1.2
  replace f1 := keep_frozen hb o1 f1
  replace f2 := keep_frozen hb o2 f2
  replace f4 := keep_frozen hb n2.1 f4
  replace f5 := keep_frozen hb n2.2 f5
  have c0 := keep_cell hb o1
  have c1 := keep_cell hb o2
  have c2 := keep_cell hb n2.1
  have c3 := keep_cell hb n2.2
  replace b0 := keep_below b0 hb
  clear hb o1 o2 n1 n2 s1
  cases b
  · have e3 : -s % n = Plain.inv s false n := by
      have := E2.out
      rw [← this, Int.sub_emod_left]
    have E3 := Lib.hid e3
    clear e3
    go_wp2
    refine bodyPost_ret (v := .tuple #[st (Plain.inv s false n) false, .int .i64 0]) ?_ rfl ⟨rfl, ?_⟩
    · have q4 := set_cell (q := ⟨w.heap.size + 1, 1, none⟩) (v := .bool false) (by simp) (new_cell (v := .int .i64 (-s % n)) c2)
      have q5 := new_cell (v := .bool false) (set_cell (q := ⟨w.heap.size + 1, 0, none⟩) (v := .int .i64 (-s % n)) (by simp) c3)
      simp [results, Try.results58, go_sem, q4, q5]
      exact E3.out
    · exact Below.setCell (Below.setCell b0 (by simp) _) (by simp) _
  · go_wp2
    refine bodyPost_ret (v := .tuple #[st (Plain.inv s true n) true, .int .i64 0]) ?_ rfl ⟨rfl, ?_⟩
    · have q4 := set_cell (q := ⟨w.heap.size + 1, 1, none⟩) (v := .bool true) (by simp) (new_cell (v := .int .i64 s) c2)
      have q5 := new_cell (v := .bool true) (set_cell (q := ⟨w.heap.size + 1, 0, none⟩) (v := .int .i64 s) (by simp) c3)
      simp [results, Try.results58, go_sem, q4, q5]
      rfl
    · exact Below.setCell (Below.setCell b0 (by simp) _) (by simp) _

set_option maxHeartbeats 400000 in
theorem refEdge_in (s n i : Int) (b : Bool) (w : World) (h : vset s n = true) (h3 : 0 ≤ i) (h4 : i < n) :
    Calls Try.prog 60 #[st s b, .int .i64 n, .int .i64 i] w fun e w' => e = .returned (.tuple #[.int .i64 (Plain.ed s b n i), .int .i64 0]) ∧ Below w.heap.size w w' := by
  have hh := h
  simp only [vset, Bool.and_eq_true, decide_eq_true_eq] at hh
  obtain ⟨⟨⟨a1, a2⟩, a3⟩, a4⟩ := hh
  go_enter Try.func60, Try.ntmps60
  go_wp2_with fail
  refine (refSetting_any _ _ _ _).mono ?_
  rintro e w1 ⟨rfl, hb⟩
  rw [h]
  have n1 := st_new w s b
  have k0 := keep_cell hb n1.1
  have k1 := keep_cell hb n1.2
  have kb := keep_below ((Below.refl _ _).alloc (Nat.le_refl _) _) hb
  clear n1 hb
  go_wp2_with (first | (go_at_call 114; refine (refLaid_any _ _ _ _ _ (by assumption) (by assumption) (by assumption) (by assumption) (by assumption) (by assumption)).mono ?_; rintro e w2 ⟨rfl, hb⟩))
  go_ret2
  exact ⟨rfl, keep_below kb hb⟩

end Go.Proofs.Ytlocdadkhdcedaa

/- Walks: Compose, Inverse, Edge of any settings, the program's and the reference's. -/
namespace Go.Proofs.Ytlocdadkhdcedaa
open Go Go.RowKit Go.Proofs

set_option maxHeartbeats 1000000 in
theorem compose_out (s t n : Int) (b c : Bool) (w : World) (h : (vset s n && vset t n) = false) :
    Calls Try.prog 55 #[st s b, st t c, .int .i64 n] w fun e w' => e = .returned (.tuple #[st 0 false, .int .i64 1]) ∧ Below w.heap.size w w' := by
  go_enter Try.func55, Try.ntmps55
  go_wp2_with fail
  refine (validSetting_any _ _ _ _).mono ?_
  rintro e w1 ⟨rfl, hb⟩
  have hS := (Sts.start w s b t c).keep hb
  clear hb
  obtain ⟨hbe, _, c0, c1, c2, c3, c4, c5, f4, f5⟩ := id hS
  cases h1 : vset s n
  · clear h h1
    go_wp2
    refine bodyPost_ret (v := .tuple #[st 0 false, .int .i64 1]) ?_ rfl ⟨rfl, Below.setCell (Below.setCell hbe (by simp; omega) _) (by simp; omega) _⟩
    have q4 := set_cell (q := ⟨w.heap.size + 1 + 1, 1, none⟩) (v := .bool false) (by simp) (new_cell (v := .int .i64 0) c4)
    have q5 := new_cell (v := .bool false) (set_cell (q := ⟨w.heap.size + 1 + 1, 0, none⟩) (v := .int .i64 0) (by simp) c5)
    simp [results, Try.results55, go_sem, q4, q5]
  · rw [h1] at h
    have h2 : vset t n = false := by simpa using h
    clear h h1
    go_wp2_with fail
    refine (validSetting_any _ _ _ _).mono ?_
    rintro e w2 ⟨rfl, hb⟩
    rw [h2]
    replace hS := hS.keep hb
    clear hb c0 c1 c2 c3 c4 c5 f4 f5 hbe
    obtain ⟨hbe, hsz, c0, c1, c2, c3, c4, c5, f4, f5⟩ := hS
    go_wp2
    refine bodyPost_ret (v := .tuple #[st 0 false, .int .i64 1]) ?_ rfl ⟨rfl, Below.setCell (Below.setCell hbe (by simp; omega) _) (by simp; omega) _⟩
    have q4 := set_cell (q := ⟨w.heap.size + 1 + 1, 1, none⟩) (v := .bool false) (by simp) (new_cell (v := .int .i64 0) c4)
    have q5 := new_cell (v := .bool false) (set_cell (q := ⟨w.heap.size + 1 + 1, 0, none⟩) (v := .int .i64 0) (by simp) c5)
    simp [results, Try.results55, go_sem, q4, q5]

set_option maxHeartbeats 1000000 in
theorem inverse_out (s n : Int) (b : Bool) (w : World) (h : vset s n = false) :
    Calls Try.prog 57 #[st s b, .int .i64 n] w fun e w' => e = .returned (.tuple #[st 0 false, .int .i64 1]) ∧ Below w.heap.size w w' := by
  go_enter Try.func57, Try.ntmps57
  go_wp2_with fail
  refine (validSetting_any _ _ _ _).mono ?_
  rintro e w1 ⟨rfl, hb⟩
  rw [h]
  have s1 : ∀ (v : World) (o : Obj), (v.alloc o).heap.size = v.heap.size + 1 := fun v o => by simp
  have n2 := st_new (w.alloc (stObj s b)) 0 false
  simp only [s1] at n2
  have f4 : ((w.alloc (stObj s b)).alloc (stObj 0 false)).frozen? ⟨w.heap.size + 1, 0, none⟩ = false := by go_simp
  have f5 : ((w.alloc (stObj s b)).alloc (stObj 0 false)).frozen? ⟨w.heap.size + 1, 1, none⟩ = false := by go_simp
  have b0 : Below w.heap.size w ((w.alloc (stObj s b)).alloc (stObj 0 false)) := ((Below.refl _ _).alloc (by simp) _).alloc (by simp) _
  replace f4 := keep_frozen hb n2.1 f4
  replace f5 := keep_frozen hb n2.2 f5
  have c2 := keep_cell hb n2.1
  have c3 := keep_cell hb n2.2
  replace b0 := keep_below b0 hb
  clear hb n2 s1
  go_wp2
  refine bodyPost_ret (v := .tuple #[st 0 false, .int .i64 1]) ?_ rfl ⟨rfl, Below.setCell (Below.setCell b0 (by simp) _) (by simp) _⟩
  have q4 := set_cell (q := ⟨w.heap.size + 1, 1, none⟩) (v := .bool false) (by simp) (new_cell (v := .int .i64 0) c2)
  have q5 := new_cell (v := .bool false) (set_cell (q := ⟨w.heap.size + 1, 0, none⟩) (v := .int .i64 0) (by simp) c3)
  simp [results, Try.results57, go_sem, q4, q5]

set_option maxHeartbeats 400000 in
theorem edge_out (s n i : Int) (b : Bool) (w : World) (h : (vset s n && decide (0 ≤ i) && decide (i < n)) = false) :
    Calls Try.prog 59 #[st s b, .int .i64 n, .int .i64 i] w fun e w' => e = .returned (.tuple #[.int .i64 0, .int .i64 1]) ∧ Below w.heap.size w w' := by
  go_enter Try.func59, Try.ntmps59
  go_wp2_with fail
  refine (validSetting_any _ _ _ _).mono ?_
  rintro e w1 ⟨rfl, hb⟩
  have kb := keep_below ((Below.refl _ _).alloc (Nat.le_refl _) _) hb
  clear hb
  cases h1 : vset s n
  · clear h h1
    go_wp2
    go_ret2
    exact ⟨rfl, kb⟩
  · rw [h1] at h
    simp only [Bool.true_and, Bool.and_eq_false_iff, decide_eq_false_iff_not] at h
    by_cases hi : i < 0
    · clear h h1
      go_wp2
      go_ret2
      exact ⟨rfl, kb⟩
    · have hn : n ≤ i := by omega
      clear h h1
      go_wp2
      go_ret2
      exact ⟨rfl, kb⟩

set_option maxHeartbeats 1000000 in
theorem refCompose_out (s t n : Int) (b c : Bool) (w : World) (h : (vset s n && vset t n) = false) :
    Calls Try.prog 56 #[st s b, st t c, .int .i64 n] w fun e w' => e = .returned (.tuple #[st 0 false, .int .i64 1]) ∧ Below w.heap.size w w' := by
  go_enter Try.func56, Try.ntmps56
  go_wp2_with fail
  refine (refSetting_any _ _ _ _).mono ?_
  rintro e w1 ⟨rfl, hb⟩
  have hS := (Sts.start w s b t c).keep hb
  clear hb
  obtain ⟨hbe, _, c0, c1, c2, c3, c4, c5, f4, f5⟩ := id hS
  cases h1 : vset s n
  · clear h h1
    go_wp2
    refine bodyPost_ret (v := .tuple #[st 0 false, .int .i64 1]) ?_ rfl ⟨rfl, Below.setCell (Below.setCell hbe (by simp; omega) _) (by simp; omega) _⟩
    have q4 := set_cell (q := ⟨w.heap.size + 1 + 1, 1, none⟩) (v := .bool false) (by simp) (new_cell (v := .int .i64 0) c4)
    have q5 := new_cell (v := .bool false) (set_cell (q := ⟨w.heap.size + 1 + 1, 0, none⟩) (v := .int .i64 0) (by simp) c5)
    simp [results, Try.results56, go_sem, q4, q5]
  · rw [h1] at h
    have h2 : vset t n = false := by simpa using h
    clear h h1
    go_wp2_with fail
    refine (refSetting_any _ _ _ _).mono ?_
    rintro e w2 ⟨rfl, hb⟩
    rw [h2]
    replace hS := hS.keep hb
    clear hb c0 c1 c2 c3 c4 c5 f4 f5 hbe
    obtain ⟨hbe, hsz, c0, c1, c2, c3, c4, c5, f4, f5⟩ := hS
    go_wp2
    refine bodyPost_ret (v := .tuple #[st 0 false, .int .i64 1]) ?_ rfl ⟨rfl, Below.setCell (Below.setCell hbe (by simp; omega) _) (by simp; omega) _⟩
    have q4 := set_cell (q := ⟨w.heap.size + 1 + 1, 1, none⟩) (v := .bool false) (by simp) (new_cell (v := .int .i64 0) c4)
    have q5 := new_cell (v := .bool false) (set_cell (q := ⟨w.heap.size + 1 + 1, 0, none⟩) (v := .int .i64 0) (by simp) c5)
    simp [results, Try.results56, go_sem, q4, q5]

set_option maxHeartbeats 1000000 in
theorem refInverse_out (s n : Int) (b : Bool) (w : World) (h : vset s n = false) :
    Calls Try.prog 58 #[st s b, .int .i64 n] w fun e w' => e = .returned (.tuple #[st 0 false, .int .i64 1]) ∧ Below w.heap.size w w' := by
  go_enter Try.func58, Try.ntmps58
  go_wp2_with fail
  refine (refSetting_any _ _ _ _).mono ?_
  rintro e w1 ⟨rfl, hb⟩
  rw [h]
  have s1 : ∀ (v : World) (o : Obj), (v.alloc o).heap.size = v.heap.size + 1 := fun v o => by simp
  have n2 := st_new (w.alloc (stObj s b)) 0 false
  simp only [s1] at n2
  have f4 : ((w.alloc (stObj s b)).alloc (stObj 0 false)).frozen? ⟨w.heap.size + 1, 0, none⟩ = false := by go_simp
  have f5 : ((w.alloc (stObj s b)).alloc (stObj 0 false)).frozen? ⟨w.heap.size + 1, 1, none⟩ = false := by go_simp
  have b0 : Below w.heap.size w ((w.alloc (stObj s b)).alloc (stObj 0 false)) := ((Below.refl _ _).alloc (by simp) _).alloc (by simp) _
  replace f4 := keep_frozen hb n2.1 f4
  replace f5 := keep_frozen hb n2.2 f5
  have c2 := keep_cell hb n2.1
  have c3 := keep_cell hb n2.2
  replace b0 := keep_below b0 hb
  clear hb n2 s1
  go_wp2
  refine bodyPost_ret (v := .tuple #[st 0 false, .int .i64 1]) ?_ rfl ⟨rfl, Below.setCell (Below.setCell b0 (by simp) _) (by simp) _⟩
  have q4 := set_cell (q := ⟨w.heap.size + 1, 1, none⟩) (v := .bool false) (by simp) (new_cell (v := .int .i64 0) c2)
  have q5 := new_cell (v := .bool false) (set_cell (q := ⟨w.heap.size + 1, 0, none⟩) (v := .int .i64 0) (by simp) c3)
  simp [results, Try.results58, go_sem, q4, q5]

set_option maxHeartbeats 400000 in
theorem refEdge_out (s n i : Int) (b : Bool) (w : World) (h : (vset s n && decide (0 ≤ i) && decide (i < n)) = false) :
    Calls Try.prog 60 #[st s b, .int .i64 n, .int .i64 i] w fun e w' => e = .returned (.tuple #[.int .i64 0, .int .i64 1]) ∧ Below w.heap.size w w' := by
  go_enter Try.func60, Try.ntmps60
  go_wp2_with fail
  refine (refSetting_any _ _ _ _).mono ?_
  rintro e w1 ⟨rfl, hb⟩
  have kb := keep_below ((Below.refl _ _).alloc (Nat.le_refl _) _) hb
  clear hb
  cases h1 : vset s n
  · clear h h1
    go_wp2
    go_ret2
    exact ⟨rfl, kb⟩
  · rw [h1] at h
    simp only [Bool.true_and, Bool.and_eq_false_iff, decide_eq_false_iff_not] at h
    by_cases hi : i < 0
    · clear h h1
      go_wp2
      go_ret2
      exact ⟨rfl, kb⟩
    · have hn : n ≤ i := by omega
      clear h h1
      go_wp2
      go_ret2
      exact ⟨rfl, kb⟩

theorem compose_all (s t n : Int) (b c : Bool) : ∃ (x : Int) (y : Bool) (e : Int), (∀ w, Calls Try.prog 55 #[st s b, st t c, .int .i64 n] w fun r w' => r = .returned (.tuple #[st x y, .int .i64 e]) ∧ Below w.heap.size w w') ∧
    ∀ w, Calls Try.prog 56 #[st s b, st t c, .int .i64 n] w fun r w' => r = .returned (.tuple #[st x y, .int .i64 e]) ∧ Below w.heap.size w w' := by
  cases h : (vset s n && vset t n)
  · exact ⟨0, false, 1, fun w => compose_out s t n b c w h, fun w => refCompose_out s t n b c w h⟩
  · rw [Bool.and_eq_true] at h
    exact ⟨_, _, 0, fun w => compose_any s t n b c w h.1 h.2, fun w => refCompose_in s t n b c w h.1 h.2⟩

theorem inverse_all (s n : Int) (b : Bool) : ∃ (x : Int) (y : Bool) (e : Int), (∀ w, Calls Try.prog 57 #[st s b, .int .i64 n] w fun r w' => r = .returned (.tuple #[st x y, .int .i64 e]) ∧ Below w.heap.size w w') ∧
    ∀ w, Calls Try.prog 58 #[st s b, .int .i64 n] w fun r w' => r = .returned (.tuple #[st x y, .int .i64 e]) ∧ Below w.heap.size w w' := by
  cases h : vset s n
  · exact ⟨0, false, 1, fun w => inverse_out s n b w h, fun w => refInverse_out s n b w h⟩
  · exact ⟨_, _, 0, fun w => inverse_any s n b w h, fun w => refInverse_in s n b w h⟩

theorem edge_all (s n i : Int) (b : Bool) : ∃ (x e : Int), (∀ w, Calls Try.prog 59 #[st s b, .int .i64 n, .int .i64 i] w fun r w' => r = .returned (.tuple #[.int .i64 x, .int .i64 e]) ∧ Below w.heap.size w w') ∧
    ∀ w, Calls Try.prog 60 #[st s b, .int .i64 n, .int .i64 i] w fun r w' => r = .returned (.tuple #[.int .i64 x, .int .i64 e]) ∧ Below w.heap.size w w' := by
  cases h : (vset s n && decide (0 ≤ i) && decide (i < n))
  · exact ⟨0, 1, fun w => edge_out s n i b w h, fun w => refEdge_out s n i b w h⟩
  · rw [Bool.and_eq_true, Bool.and_eq_true, decide_eq_true_eq, decide_eq_true_eq] at h
    exact ⟨_, 0, fun w => edgeP_any s n i b w h.1.1 h.1.2 h.2, fun w => refEdge_in s n i b w h.1.1 h.1.2 h.2⟩

end Go.Proofs.Ytlocdadkhdcedaa
