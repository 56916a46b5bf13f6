/- Walks: the group of settings. -/
import Derived.Test.YtennldmiepondaaG2
import Derived.Test.YtennldmiepondaaAwake
namespace Go.Proofs.Ytennldmiepondaa
open Go Go.RowKit Go.Proofs

structure S3 (w : World) (s t u : Int) (b c d : Bool) (w' : World) : Prop where
  bel : Below w.heap.size w w'
  n : w.heap.size + 3 ≤ w'.heap.size
  c0 : w'.cell? ⟨w.heap.size, 0, none⟩ = some (.int .i64 s)
  c1 : w'.cell? ⟨w.heap.size, 1, none⟩ = some (.bool b)
  c2 : w'.cell? ⟨w.heap.size + 1, 0, none⟩ = some (.int .i64 t)
  c3 : w'.cell? ⟨w.heap.size + 1, 1, none⟩ = some (.bool c)
  c4 : w'.cell? ⟨w.heap.size + 1 + 1, 0, none⟩ = some (.int .i64 u)
  c5 : w'.cell? ⟨w.heap.size + 1 + 1, 1, none⟩ = some (.bool d)

variable {w w1 w2 : World} {s t u : Int} {b c d : Bool}

theorem S3.keep (h : S3 w s t u b c d w1) (hb : Below w1.heap.size w1 w2) : S3 w s t u b c d w2 :=
  ⟨keep_below h.bel hb, Nat.le_trans h.n hb.size, keep_cell hb h.c0, keep_cell hb h.c1, keep_cell hb h.c2, keep_cell hb h.c3, keep_cell hb h.c4, keep_cell hb h.c5⟩

theorem S3.start (w : World) (s t u : Int) (b c d : Bool) : S3 w s t u b c d (((w.alloc (stObj s b)).alloc (stObj t c)).alloc (stObj u d)) := by
  have s1 : ∀ (v : World) (o : Obj), (v.alloc o).heap.size = v.heap.size + 1 := fun v o => by simp
  have n1 := st_new w s b
  have n2 := st_new (w.alloc (stObj s b)) t c
  have n3 := st_new ((w.alloc (stObj s b)).alloc (stObj t c)) u d
  simp only [s1] at n2 n3
  exact ⟨(((Below.refl _ _).alloc (by simp) _).alloc (by simp) _).alloc (by simp; omega) _, by simp, pt_old _ _ (pt_old _ _ n1.1), pt_old _ _ (pt_old _ _ n1.2), pt_old _ _ n2.1, pt_old _ _ n2.2, n3.1, n3.2⟩

theorem vset_idx {s n i : Int} (h : vset s n = true) (hi : 0 ≤ i) (hn : i < n) : vset i n = true := by
  simp only [vset, Bool.and_eq_true, decide_eq_true_eq] at *
  omega

theorem vset_range {s n i : Int} {b : Bool} (h : vset s n = true) (hi : 0 ≤ i) (hn : i < n) : 0 ≤ Plain.ed s b n i ∧ Plain.ed s b n i < n := by
  simp only [vset, Bool.and_eq_true, decide_eq_true_eq] at *
  exact Plain.ed_range h.1.2 h.2 hi hn

theorem vset_unit {s n : Int} (h : vset s n = true) : Plain.ed 0 false n s = s := by
  simp only [vset, Bool.and_eq_true, decide_eq_true_eq] at *
  exact Plain.zero_ed h.1.2 h.2

theorem vset_tinu {s n : Int} {b : Bool} (h : vset s n = true) : Plain.ed s b n 0 = s := by
  simp only [vset, Bool.and_eq_true, decide_eq_true_eq] at *
  exact Plain.ed_zero h.1.2 h.2

theorem vset_inv_ed {s n : Int} {b : Bool} (h : vset s n = true) : Plain.ed (Plain.inv s b n) b n s = 0 := by
  simp only [vset, Bool.and_eq_true, decide_eq_true_eq] at *
  exact Plain.inv_ed h.1.2 h.2

theorem vset_ed {s t n : Int} {b : Bool} (h : vset s n = true) (h' : vset t n = true) : vset (Plain.ed t b n s) n = true := by
  simp only [vset, Bool.and_eq_true, decide_eq_true_eq] at *
  have := Plain.ed_range (b := b) h'.1.2 h'.2 h.1.2 h.2
  omega

theorem vset_inv {s n : Int} {b : Bool} (h : vset s n = true) : vset (Plain.inv s b n) n = true := by
  simp only [vset, Bool.and_eq_true, decide_eq_true_eq] at *
  have := Plain.inv_range (b := b) h.1.2 h.2
  omega

theorem vset_zero {s n : Int} (h : vset s n = true) : vset 0 n = true := by
  simp only [vset, Bool.and_eq_true, decide_eq_true_eq] at *
  omega

theorem vset_assoc {s t u n : Int} {c d : Bool} (h : vset s n = true) (h' : vset t n = true) (h'' : vset u n = true) :
    Plain.ed u d n (Plain.ed t c n s) = Plain.ed (Plain.ed u d n t) (c != d) n s := by
  simp only [vset, Bool.and_eq_true, decide_eq_true_eq] at *
  exact Plain.ed_ed h'.1.2 h'.2 h''.1.2 h''.2 h.1.2 h.2

abbrev Composes (s : Int) (b : Bool) (t : Int) (c : Bool) (n x : Int) (y : Bool) : Prop :=
  ∀ w, Calls Try.prog 55 #[st s b, st t c, .int .i64 n] w fun e w' => e = .returned (.tuple #[st x y, .int .i64 0]) ∧ Below w.heap.size w w'

abbrev Edges (s : Int) (b : Bool) (n i x : Int) : Prop :=
  ∀ w, Calls Try.prog 59 #[st s b, .int .i64 n, .int .i64 i] w fun e w' => e = .returned (.tuple #[.int .i64 x, .int .i64 0]) ∧ Below w.heap.size w w'

theorem group_facts {s t u n i : Int} {b c d : Bool} (hs : vset s n = true) (ht : vset t n = true) (hu : vset u n = true) (hi : 0 ≤ i) (hn : i < n) :
    ∃ (x1 : Int) (y1 : Bool) (x2 : Int) (y2 : Bool) (x3 : Int) (y3 : Bool) (x4 i1 i2 : Int), Composes s b t c n x1 y1 ∧ Composes x1 y1 u d n x2 y2 ∧ Composes t c u d n x3 y3 ∧ Composes s b x3 y3 n x2 y2 ∧
      Composes s b 0 false n s b ∧ Composes 0 false s b n s b ∧ (∀ w, Calls Try.prog 57 #[st s b, .int .i64 n] w fun e w' => e = .returned (.tuple #[st x4 b, .int .i64 0]) ∧ Below w.heap.size w w') ∧ Composes s b x4 b n 0 false ∧
      Edges s b n i i1 ∧ Edges t c n i1 i2 ∧ Edges x1 y1 n i i2 := by
  have hst := vset_ed (b := c) hs ht
  have htu := vset_ed (b := d) ht hu
  have hinv := vset_inv (b := b) hs
  have h0 := vset_zero hs
  have e1 := vset_assoc (c := c) (d := d) hs ht hu
  have e2 := vset_assoc (s := i) (t := s) (u := t) (c := b) (d := c) (vset_idx hs hi hn) hs ht
  have hei := vset_range (b := b) hs hi hn
  refine ⟨_, _, _, _, _, _, _, _, _, fun w => compose_any s t n b c w hs ht, fun w => compose_any _ u n _ d w hst hu, fun w => compose_any t u n c d w ht hu, fun w => ?_, fun w => ?_, fun w => ?_, fun w => inverse_any s n b w hs, fun w => ?_,
    fun w => edgeP_any s n i b w hs hi hn, fun w => edgeP_any t n _ c w ht hei.1 hei.2, fun w => ?_⟩
  · have := compose_any s (Plain.ed u d n t) n b (c != d) w hs htu
    rwa [← e1, show (b != (c != d)) = ((b != c) != d) by cases b <;> cases c <;> cases d <;> rfl] at this
  · have := compose_any s 0 n b false w hs h0
    rwa [vset_unit hs, show (b != false) = b by cases b <;> rfl] at this
  · have := compose_any 0 s n false b w h0 hs
    rwa [vset_tinu hs, show (false != b) = b by cases b <;> rfl] at this
  · have := compose_any s (Plain.inv s b n) n b b w hs hinv
    rwa [vset_inv_ed hs, show (b != b) = false by cases b <;> rfl] at this
  · have := edgeP_any (Plain.ed t c n s) n i (b != c) w hst hi hn
    rwa [← e2] at this

set_option maxRecDepth 100000 in
set_option maxHeartbeats 2000000 in
theorem group_out (s t u n i : Int) (b c d : Bool) (w : World) (h : (vset s n && vset t n && vset u n && decide (0 ≤ i) && decide (i < n)) = false) :
    Calls Try.prog 14 #[st s b, st t c, st u d, .int .i64 n, .int .i64 i] w fun e w' => e = .returned (.bool true) ∧ Below w.heap.size w w' := by
  go_enter Try.func14, Try.ntmps14
  go_wp2_with fail
  refine (awake_any _).mono ?_
  rintro e w1 ⟨rfl, hb⟩
  have hS := (S3.start w s t u b c d).keep hb
  clear hb
  obtain ⟨hbe, hsz, c0, c1, c2, c3, c4, c5⟩ := hS
  go_wp2_with fail
  refine (refSetting_any _ _ _ _).mono ?_
  rintro e w2 ⟨rfl, hb⟩
  replace c0 := keep_cell hb c0
  replace c1 := keep_cell hb c1
  replace c2 := keep_cell hb c2
  replace c3 := keep_cell hb c3
  replace c4 := keep_cell hb c4
  replace c5 := keep_cell hb c5
  replace hbe := keep_below hbe hb
  clear hb
  cases h1 : vset s n
  · clear h h1
    go_wp2
    go_ret
    exact ⟨rfl, hbe⟩
  · rw [h1] at h
    clear h1
    go_wp2_with fail
    refine (refSetting_any _ _ _ _).mono ?_
    rintro e w3 ⟨rfl, hb⟩
    replace c0 := keep_cell hb c0
    replace c1 := keep_cell hb c1
    replace c2 := keep_cell hb c2
    replace c3 := keep_cell hb c3
    replace c4 := keep_cell hb c4
    replace c5 := keep_cell hb c5
    replace hbe := keep_below hbe hb
    clear hb
    cases h1 : vset t n
    · clear h h1
      go_wp2
      go_ret
      exact ⟨rfl, hbe⟩
    · rw [h1] at h
      clear h1
      go_wp2_with fail
      refine (refSetting_any _ _ _ _).mono ?_
      rintro e w4 ⟨rfl, hb⟩
      replace c0 := keep_cell hb c0
      replace c1 := keep_cell hb c1
      replace c2 := keep_cell hb c2
      replace c3 := keep_cell hb c3
      replace c4 := keep_cell hb c4
      replace c5 := keep_cell hb c5
      replace hbe := keep_below hbe hb
      clear hb
      cases h1 : vset u n
      · clear h h1
        go_wp2
        go_ret
        exact ⟨rfl, hbe⟩
      · rw [h1] at h
        clear h1
        simp only [Bool.and_self, Bool.true_and, Bool.and_eq_false_iff, decide_eq_false_iff_not] at h
        by_cases hi : i < 0
        · clear h
          go_wp2
          go_ret
          exact ⟨rfl, hbe⟩
        · have hn : n ≤ i := by omega
          clear h
          go_wp2
          go_ret
          exact ⟨rfl, hbe⟩

set_option maxRecDepth 100000 in
set_option maxHeartbeats 4000000 in
theorem group_in (s t u n i : Int) (b c d : Bool) (w : World) (hs : vset s n = true) (ht : vset t n = true) (hu : vset u n = true) (hi : 0 ≤ i) (hn : i < n) :
    Calls Try.prog 14 #[st s b, st t c, st u d, .int .i64 n, .int .i64 i] w fun e w' => e = .returned (.bool true) ∧ Below w.heap.size w w' := by
  obtain ⟨x1, y1, x2, y2, x3, y3, x4, i1, i2, H5, H6, H7, H8, H9, H10, H11, H12, H13, H14, H15⟩ := group_facts (b := b) (c := c) (d := d) hs ht hu hi hn
  go_enter Try.func14, Try.ntmps14
  go_wp2_with fail
  refine (awake_any _).mono ?_
  rintro e w1 ⟨rfl, hb⟩
  have hS := (S3.start w s t u b c d).keep hb
  clear hb
  obtain ⟨hbe, hsz, c0, c1, c2, c3, c4, c5⟩ := hS
  go_wp2_with fail
  refine (refSetting_any _ _ _ _).mono ?_
  rintro e w2 ⟨rfl, hb⟩
  replace c0 := keep_cell hb c0
  replace c1 := keep_cell hb c1
  replace c2 := keep_cell hb c2
  replace c3 := keep_cell hb c3
  replace c4 := keep_cell hb c4
  replace c5 := keep_cell hb c5
  replace hbe := keep_below hbe hb
  clear hb
  rw [hs]
  go_wp2_with fail
  refine (refSetting_any _ _ _ _).mono ?_
  rintro e w3 ⟨rfl, hb⟩
  replace c0 := keep_cell hb c0
  replace c1 := keep_cell hb c1
  replace c2 := keep_cell hb c2
  replace c3 := keep_cell hb c3
  replace c4 := keep_cell hb c4
  replace c5 := keep_cell hb c5
  replace hbe := keep_below hbe hb
  clear hb
  rw [ht]
  go_wp2_with fail
  refine (refSetting_any _ _ _ _).mono ?_
  rintro e w4 ⟨rfl, hb⟩
  replace c0 := keep_cell hb c0
  replace c1 := keep_cell hb c1
  replace c2 := keep_cell hb c2
  replace c3 := keep_cell hb c3
  replace c4 := keep_cell hb c4
  replace c5 := keep_cell hb c5
  replace hbe := keep_below hbe hb
  clear hb
  rw [hu]
  go_wp2_with fail
  refine (H5 _).mono ?_
  rintro e w5 ⟨rfl, hb⟩
  replace c0 := keep_cell hb c0
  replace c1 := keep_cell hb c1
  replace c2 := keep_cell hb c2
  replace c3 := keep_cell hb c3
  replace c4 := keep_cell hb c4
  replace c5 := keep_cell hb c5
  replace hbe := keep_below hbe hb
  clear hb
  replace c0 := pt_old w5 (stObj x1 y1) c0
  replace c1 := pt_old w5 (stObj x1 y1) c1
  replace c2 := pt_old w5 (stObj x1 y1) c2
  replace c3 := pt_old w5 (stObj x1 y1) c3
  replace c4 := pt_old w5 (stObj x1 y1) c4
  replace c5 := pt_old w5 (stObj x1 y1) c5
  obtain ⟨c6, c7⟩ := st_new w5 x1 y1
  replace hbe := hbe.alloc hbe.size (stObj x1 y1)
  go_wp2_with fail
  refine (H6 _).mono ?_
  rintro e w6 ⟨rfl, hb⟩
  replace c0 := keep_cell hb c0
  replace c1 := keep_cell hb c1
  replace c2 := keep_cell hb c2
  replace c3 := keep_cell hb c3
  replace c4 := keep_cell hb c4
  replace c5 := keep_cell hb c5
  replace c6 := keep_cell hb c6
  replace c7 := keep_cell hb c7
  replace hbe := keep_below hbe hb
  clear hb
  replace c0 := pt_old w6 (stObj x2 y2) c0
  replace c1 := pt_old w6 (stObj x2 y2) c1
  replace c2 := pt_old w6 (stObj x2 y2) c2
  replace c3 := pt_old w6 (stObj x2 y2) c3
  replace c4 := pt_old w6 (stObj x2 y2) c4
  replace c5 := pt_old w6 (stObj x2 y2) c5
  replace c6 := pt_old w6 (stObj x2 y2) c6
  replace c7 := pt_old w6 (stObj x2 y2) c7
  obtain ⟨c8, c9⟩ := st_new w6 x2 y2
  replace hbe := hbe.alloc hbe.size (stObj x2 y2)
  go_wp2_with fail
  refine (H7 _).mono ?_
  rintro e w7 ⟨rfl, hb⟩
  replace c0 := keep_cell hb c0
  replace c1 := keep_cell hb c1
  replace c2 := keep_cell hb c2
  replace c3 := keep_cell hb c3
  replace c4 := keep_cell hb c4
  replace c5 := keep_cell hb c5
  replace c6 := keep_cell hb c6
  replace c7 := keep_cell hb c7
  replace c8 := keep_cell hb c8
  replace c9 := keep_cell hb c9
  replace hbe := keep_below hbe hb
  clear hb
  replace c0 := pt_old w7 (stObj x3 y3) c0
  replace c1 := pt_old w7 (stObj x3 y3) c1
  replace c2 := pt_old w7 (stObj x3 y3) c2
  replace c3 := pt_old w7 (stObj x3 y3) c3
  replace c4 := pt_old w7 (stObj x3 y3) c4
  replace c5 := pt_old w7 (stObj x3 y3) c5
  replace c6 := pt_old w7 (stObj x3 y3) c6
  replace c7 := pt_old w7 (stObj x3 y3) c7
  replace c8 := pt_old w7 (stObj x3 y3) c8
  replace c9 := pt_old w7 (stObj x3 y3) c9
  obtain ⟨c10, c11⟩ := st_new w7 x3 y3
  replace hbe := hbe.alloc hbe.size (stObj x3 y3)
  go_wp2_with fail
  refine (H8 _).mono ?_
  rintro e w8 ⟨rfl, hb⟩
  replace c0 := keep_cell hb c0
  replace c1 := keep_cell hb c1
  replace c2 := keep_cell hb c2
  replace c3 := keep_cell hb c3
  replace c4 := keep_cell hb c4
  replace c5 := keep_cell hb c5
  replace c6 := keep_cell hb c6
  replace c7 := keep_cell hb c7
  replace c8 := keep_cell hb c8
  replace c9 := keep_cell hb c9
  replace c10 := keep_cell hb c10
  replace c11 := keep_cell hb c11
  replace hbe := keep_below hbe hb
  clear hb
  replace c0 := pt_old w8 (stObj x2 y2) c0
  replace c1 := pt_old w8 (stObj x2 y2) c1
  replace c2 := pt_old w8 (stObj x2 y2) c2
  replace c3 := pt_old w8 (stObj x2 y2) c3
  replace c4 := pt_old w8 (stObj x2 y2) c4
  replace c5 := pt_old w8 (stObj x2 y2) c5
  replace c6 := pt_old w8 (stObj x2 y2) c6
  replace c7 := pt_old w8 (stObj x2 y2) c7
  replace c8 := pt_old w8 (stObj x2 y2) c8
  replace c9 := pt_old w8 (stObj x2 y2) c9
  replace c10 := pt_old w8 (stObj x2 y2) c10
  replace c11 := pt_old w8 (stObj x2 y2) c11
  obtain ⟨c12, c13⟩ := st_new w8 x2 y2
  replace hbe := hbe.alloc hbe.size (stObj x2 y2)
  go_wp2_with fail
  refine (H9 _).mono ?_
  rintro e w9 ⟨rfl, hb⟩
  replace c0 := keep_cell hb c0
  replace c1 := keep_cell hb c1
  replace c2 := keep_cell hb c2
  replace c3 := keep_cell hb c3
  replace c4 := keep_cell hb c4
  replace c5 := keep_cell hb c5
  replace c6 := keep_cell hb c6
  replace c7 := keep_cell hb c7
  replace c8 := keep_cell hb c8
  replace c9 := keep_cell hb c9
  replace c10 := keep_cell hb c10
  replace c11 := keep_cell hb c11
  replace c12 := keep_cell hb c12
  replace c13 := keep_cell hb c13
  replace hbe := keep_below hbe hb
  clear hb
  replace c0 := pt_old w9 (stObj s b) c0
  replace c1 := pt_old w9 (stObj s b) c1
  replace c2 := pt_old w9 (stObj s b) c2
  replace c3 := pt_old w9 (stObj s b) c3
  replace c4 := pt_old w9 (stObj s b) c4
  replace c5 := pt_old w9 (stObj s b) c5
  replace c6 := pt_old w9 (stObj s b) c6
  replace c7 := pt_old w9 (stObj s b) c7
  replace c8 := pt_old w9 (stObj s b) c8
  replace c9 := pt_old w9 (stObj s b) c9
  replace c10 := pt_old w9 (stObj s b) c10
  replace c11 := pt_old w9 (stObj s b) c11
  replace c12 := pt_old w9 (stObj s b) c12
  replace c13 := pt_old w9 (stObj s b) c13
  obtain ⟨c14, c15⟩ := st_new w9 s b
  replace hbe := hbe.alloc hbe.size (stObj s b)
  go_wp2_with fail
  refine (H10 _).mono ?_
  rintro e w10 ⟨rfl, hb⟩
  replace c0 := keep_cell hb c0
  replace c1 := keep_cell hb c1
  replace c2 := keep_cell hb c2
  replace c3 := keep_cell hb c3
  replace c4 := keep_cell hb c4
  replace c5 := keep_cell hb c5
  replace c6 := keep_cell hb c6
  replace c7 := keep_cell hb c7
  replace c8 := keep_cell hb c8
  replace c9 := keep_cell hb c9
  replace c10 := keep_cell hb c10
  replace c11 := keep_cell hb c11
  replace c12 := keep_cell hb c12
  replace c13 := keep_cell hb c13
  replace c14 := keep_cell hb c14
  replace c15 := keep_cell hb c15
  replace hbe := keep_below hbe hb
  clear hb
  replace c0 := pt_old w10 (stObj s b) c0
  replace c1 := pt_old w10 (stObj s b) c1
  replace c2 := pt_old w10 (stObj s b) c2
  replace c3 := pt_old w10 (stObj s b) c3
  replace c4 := pt_old w10 (stObj s b) c4
  replace c5 := pt_old w10 (stObj s b) c5
  replace c6 := pt_old w10 (stObj s b) c6
  replace c7 := pt_old w10 (stObj s b) c7
  replace c8 := pt_old w10 (stObj s b) c8
  replace c9 := pt_old w10 (stObj s b) c9
  replace c10 := pt_old w10 (stObj s b) c10
  replace c11 := pt_old w10 (stObj s b) c11
  replace c12 := pt_old w10 (stObj s b) c12
  replace c13 := pt_old w10 (stObj s b) c13
  replace c14 := pt_old w10 (stObj s b) c14
  replace c15 := pt_old w10 (stObj s b) c15
  obtain ⟨c16, c17⟩ := st_new w10 s b
  replace hbe := hbe.alloc hbe.size (stObj s b)
  go_wp2_with fail
  refine (H11 _).mono ?_
  rintro e w11 ⟨rfl, hb⟩
  replace c0 := keep_cell hb c0
  replace c1 := keep_cell hb c1
  replace c2 := keep_cell hb c2
  replace c3 := keep_cell hb c3
  replace c4 := keep_cell hb c4
  replace c5 := keep_cell hb c5
  replace c6 := keep_cell hb c6
  replace c7 := keep_cell hb c7
  replace c8 := keep_cell hb c8
  replace c9 := keep_cell hb c9
  replace c10 := keep_cell hb c10
  replace c11 := keep_cell hb c11
  replace c12 := keep_cell hb c12
  replace c13 := keep_cell hb c13
  replace c14 := keep_cell hb c14
  replace c15 := keep_cell hb c15
  replace c16 := keep_cell hb c16
  replace c17 := keep_cell hb c17
  replace hbe := keep_below hbe hb
  clear hb
  replace c0 := pt_old w11 (stObj x4 b) c0
  replace c1 := pt_old w11 (stObj x4 b) c1
  replace c2 := pt_old w11 (stObj x4 b) c2
  replace c3 := pt_old w11 (stObj x4 b) c3
  replace c4 := pt_old w11 (stObj x4 b) c4
  replace c5 := pt_old w11 (stObj x4 b) c5
  replace c6 := pt_old w11 (stObj x4 b) c6
  replace c7 := pt_old w11 (stObj x4 b) c7
  replace c8 := pt_old w11 (stObj x4 b) c8
  replace c9 := pt_old w11 (stObj x4 b) c9
  replace c10 := pt_old w11 (stObj x4 b) c10
  replace c11 := pt_old w11 (stObj x4 b) c11
  replace c12 := pt_old w11 (stObj x4 b) c12
  replace c13 := pt_old w11 (stObj x4 b) c13
  replace c14 := pt_old w11 (stObj x4 b) c14
  replace c15 := pt_old w11 (stObj x4 b) c15
  replace c16 := pt_old w11 (stObj x4 b) c16
  replace c17 := pt_old w11 (stObj x4 b) c17
  obtain ⟨c18, c19⟩ := st_new w11 x4 b
  replace hbe := hbe.alloc hbe.size (stObj x4 b)
  go_wp2_with fail
  refine (H12 _).mono ?_
  rintro e w12 ⟨rfl, hb⟩
  replace c0 := keep_cell hb c0
  replace c1 := keep_cell hb c1
  replace c2 := keep_cell hb c2
  replace c3 := keep_cell hb c3
  replace c4 := keep_cell hb c4
  replace c5 := keep_cell hb c5
  replace c6 := keep_cell hb c6
  replace c7 := keep_cell hb c7
  replace c8 := keep_cell hb c8
  replace c9 := keep_cell hb c9
  replace c10 := keep_cell hb c10
  replace c11 := keep_cell hb c11
  replace c12 := keep_cell hb c12
  replace c13 := keep_cell hb c13
  replace c14 := keep_cell hb c14
  replace c15 := keep_cell hb c15
  replace c16 := keep_cell hb c16
  replace c17 := keep_cell hb c17
  replace c18 := keep_cell hb c18
  replace c19 := keep_cell hb c19
  replace hbe := keep_below hbe hb
  clear hb
  replace c0 := pt_old w12 (stObj 0 false) c0
  replace c1 := pt_old w12 (stObj 0 false) c1
  replace c2 := pt_old w12 (stObj 0 false) c2
  replace c3 := pt_old w12 (stObj 0 false) c3
  replace c4 := pt_old w12 (stObj 0 false) c4
  replace c5 := pt_old w12 (stObj 0 false) c5
  replace c6 := pt_old w12 (stObj 0 false) c6
  replace c7 := pt_old w12 (stObj 0 false) c7
  replace c8 := pt_old w12 (stObj 0 false) c8
  replace c9 := pt_old w12 (stObj 0 false) c9
  replace c10 := pt_old w12 (stObj 0 false) c10
  replace c11 := pt_old w12 (stObj 0 false) c11
  replace c12 := pt_old w12 (stObj 0 false) c12
  replace c13 := pt_old w12 (stObj 0 false) c13
  replace c14 := pt_old w12 (stObj 0 false) c14
  replace c15 := pt_old w12 (stObj 0 false) c15
  replace c16 := pt_old w12 (stObj 0 false) c16
  replace c17 := pt_old w12 (stObj 0 false) c17
  replace c18 := pt_old w12 (stObj 0 false) c18
  replace c19 := pt_old w12 (stObj 0 false) c19
  obtain ⟨c20, c21⟩ := st_new w12 0 false
  replace hbe := hbe.alloc hbe.size (stObj 0 false)
  go_wp2_with fail
  refine (H13 _).mono ?_
  rintro e w13 ⟨rfl, hb⟩
  replace c0 := keep_cell hb c0
  replace c1 := keep_cell hb c1
  replace c2 := keep_cell hb c2
  replace c3 := keep_cell hb c3
  replace c4 := keep_cell hb c4
  replace c5 := keep_cell hb c5
  replace c6 := keep_cell hb c6
  replace c7 := keep_cell hb c7
  replace c8 := keep_cell hb c8
  replace c9 := keep_cell hb c9
  replace c10 := keep_cell hb c10
  replace c11 := keep_cell hb c11
  replace c12 := keep_cell hb c12
  replace c13 := keep_cell hb c13
  replace c14 := keep_cell hb c14
  replace c15 := keep_cell hb c15
  replace c16 := keep_cell hb c16
  replace c17 := keep_cell hb c17
  replace c18 := keep_cell hb c18
  replace c19 := keep_cell hb c19
  replace c20 := keep_cell hb c20
  replace c21 := keep_cell hb c21
  replace hbe := keep_below hbe hb
  clear hb
  go_wp2_with fail
  refine (H14 _).mono ?_
  rintro e w14 ⟨rfl, hb⟩
  replace c0 := keep_cell hb c0
  replace c1 := keep_cell hb c1
  replace c2 := keep_cell hb c2
  replace c3 := keep_cell hb c3
  replace c4 := keep_cell hb c4
  replace c5 := keep_cell hb c5
  replace c6 := keep_cell hb c6
  replace c7 := keep_cell hb c7
  replace c8 := keep_cell hb c8
  replace c9 := keep_cell hb c9
  replace c10 := keep_cell hb c10
  replace c11 := keep_cell hb c11
  replace c12 := keep_cell hb c12
  replace c13 := keep_cell hb c13
  replace c14 := keep_cell hb c14
  replace c15 := keep_cell hb c15
  replace c16 := keep_cell hb c16
  replace c17 := keep_cell hb c17
  replace c18 := keep_cell hb c18
  replace c19 := keep_cell hb c19
  replace c20 := keep_cell hb c20
  replace c21 := keep_cell hb c21
  replace hbe := keep_below hbe hb
  clear hb
  go_wp2_with fail
  refine (H15 _).mono ?_
  rintro e w15 ⟨rfl, hb⟩
  replace c0 := keep_cell hb c0
  replace c1 := keep_cell hb c1
  replace c2 := keep_cell hb c2
  replace c3 := keep_cell hb c3
  replace c4 := keep_cell hb c4
  replace c5 := keep_cell hb c5
  replace c6 := keep_cell hb c6
  replace c7 := keep_cell hb c7
  replace c8 := keep_cell hb c8
  replace c9 := keep_cell hb c9
  replace c10 := keep_cell hb c10
  replace c11 := keep_cell hb c11
  replace c12 := keep_cell hb c12
  replace c13 := keep_cell hb c13
  replace c14 := keep_cell hb c14
  replace c15 := keep_cell hb c15
  replace c16 := keep_cell hb c16
  replace c17 := keep_cell hb c17
  replace c18 := keep_cell hb c18
  replace c19 := keep_cell hb c19
  replace c20 := keep_cell hb c20
  replace c21 := keep_cell hb c21
  replace hbe := keep_below hbe hb
  clear hb
  go_wp2
  go_ret
  exact ⟨rfl, hbe⟩

end Go.Proofs.Ytennldmiepondaa
