/- Walks: common and both of the reference. -/
import Derived.Test.YtcfapbccegijnaaGreatSB
import Derived.BigRegion
namespace Go.Proofs.YtcfapbccegijnaaGreat
open Go Go.RowKit Go.Proofs Go.Abs

set_option maxRecDepth 100000 in
set_option maxHeartbeats 4000000 in
theorem refCommon_any (a b c d : Int) (w : World) :
    Calls Tryz.prog 151 #[spn a b, spn c d] w fun e w' => e = .returned (.tuple #[spn (max a c) (min b d), .bool (decide (max a c ≤ min b d))]) ∧ Below w.heap.size w w' := by
  obtain ⟨W0, hW0⟩ : ∃ W0, ((w.alloc (spnObj a b)).alloc (spnObj c d)).alloc (.cells #[.int .i64 0, .int .i64 0] 81) = W0 := ⟨_, rfl⟩
  have s0 : Sp W0 w.heap.size a b := by rw [← hW0]; exact ((Sp.new w a b).alloc _).alloc _
  have s1 : Sp W0 (w.heap.size + 1) c d := by
    rw [← hW0]
    have := (Sp.new (w.alloc (spnObj a b)) c d).alloc (.cells #[.int .i64 0, .int .i64 0] 81)
    rwa [World.size_alloc] at this
  have s2 : Sp W0 (w.heap.size + 1 + 1) 0 0 := by
    rw [← hW0]
    have := Sp.new ((w.alloc (spnObj a b)).alloc (spnObj c d)) 0 0
    rwa [World.size_alloc, World.size_alloc] at this
  have bb : Below w.heap.size w W0 := by rw [← hW0]; exact (((Below.refl _ _).alloc (Nat.le_refl _) _).alloc (by simp) _).alloc (by simp; omega) _
  have hz : W0.heap.size = w.heap.size + 3 := by rw [← hW0]; simp
  have d0 := s0.c0
  have d1 := s0.c1
  have e0 := s1.c0
  have e1 := s1.c1
  go_enter Tryz.func151, Tryz.ntmps151
  go_wp2_with fail
  obtain ⟨M, hM⟩ : ∃ M, max a c = M := ⟨_, rfl⟩
  obtain ⟨m, hm⟩ : ∃ m, min b d = m := ⟨_, rfl⟩
  rw [hM, hm]
  obtain ⟨W1, hW1⟩ : ∃ W1, W0.alloc (.cells #[.int .i64 M, .int .i64 m] 81) = W1 := ⟨_, rfl⟩
  have t1 : Sp W1 W0.heap.size M m := by rw [← hW1]; exact Sp.new W0 M m
  have t2 : Sp W1 (w.heap.size + 1 + 1) 0 0 := by rw [← hW1]; exact s2.alloc _
  have b1 : Below w.heap.size w W1 := by rw [← hW1]; exact bb.alloc bb.size _
  rw [hz] at t1
  clear hz s0 s1 s2 bb
  have f0 := t2.c0
  have f1 := t2.c1
  have z0 := t2.f 0
  have z1 := t2.f 1
  have g0 := t1.c0
  have g1 := t1.c1
  rw [hW1]
  clear hW1 hW0 d0 d1 e0 e1
  go_region
  simp only [Exit.then]
  go_at_K
  go_wp2
  subst hM hm
  refine bodyPost_ret (results_cell_tmp (fn := Tryz.f151) (p := ⟨w.heap.size + 1 + 1, 0, none⟩) rfl _ (by rfl) (Sp.load (lo := max a c) (hi := min b d) ?_)) rfl ⟨rfl, ?_⟩
  · exact t2.set _ _
  · exact ((b1.setCell (p := ⟨w.heap.size + 1 + 1, 0, none⟩) (by simp; omega) _).setCell (p := ⟨w.heap.size + 1 + 1, 1, none⟩) (by simp; omega) _).drew

theorem both_fin {w W4 : World} {A B C D E : Int} (hy : W4.heap[w.heap.size + 1 + 1]? = some (.cells #[.int .i64 0, .int .i64 0, .int .i64 0, .int .i64 0, .int .i64 0] 83 (0, 0))) (hb : Below w.heap.size w W4) :
    (loadVar 83 ⟨w.heap.size + 1 + 1, 0, none⟩).run Tryz.prog (((((W4.setCell ⟨w.heap.size + 1 + 1, 0, none⟩ (.int .i64 A)).setCell ⟨w.heap.size + 1 + 1, 1, none⟩ (.int .i64 B)).setCell ⟨w.heap.size + 1 + 1, 2, none⟩ (.int .i64 C)).setCell ⟨w.heap.size + 1 + 1, 3, none⟩ (.int .i64 D)).setCell ⟨w.heap.size + 1 + 1, 4, none⟩ (.int .i64 E)).drew = .ok (gg A B C D E) (((((W4.setCell ⟨w.heap.size + 1 + 1, 0, none⟩ (.int .i64 A)).setCell ⟨w.heap.size + 1 + 1, 1, none⟩ (.int .i64 B)).setCell ⟨w.heap.size + 1 + 1, 2, none⟩ (.int .i64 C)).setCell ⟨w.heap.size + 1 + 1, 3, none⟩ (.int .i64 D)).setCell ⟨w.heap.size + 1 + 1, 4, none⟩ (.int .i64 E)).drew ∧
    Below w.heap.size w (((((W4.setCell ⟨w.heap.size + 1 + 1, 0, none⟩ (.int .i64 A)).setCell ⟨w.heap.size + 1 + 1, 1, none⟩ (.int .i64 B)).setCell ⟨w.heap.size + 1 + 1, 2, none⟩ (.int .i64 C)).setCell ⟨w.heap.size + 1 + 1, 3, none⟩ (.int .i64 D)).setCell ⟨w.heap.size + 1 + 1, 4, none⟩ (.int .i64 E)).drew := by
  have hb4 := (((((hb.setCell (p := ⟨w.heap.size + 1 + 1, 0, none⟩) (by simp; omega) (.int .i64 A)).setCell (p := ⟨w.heap.size + 1 + 1, 1, none⟩) (by simp; omega) (.int .i64 B)).setCell (p := ⟨w.heap.size + 1 + 1, 2, none⟩) (by simp; omega) (.int .i64 C)).setCell (p := ⟨w.heap.size + 1 + 1, 3, none⟩) (by simp; omega) (.int .i64 D)).setCell (p := ⟨w.heap.size + 1 + 1, 4, none⟩) (by simp; omega) (.int .i64 E)).drew
  have hf := resG (b0 := .int .i64 A) (b1 := .int .i64 B) (b2 := .int .i64 C) (b3 := .int .i64 D) (b4 := .int .i64 E) hy
  generalize ((((W4.setCell ⟨w.heap.size + 1 + 1, 0, none⟩ (.int .i64 A)).setCell ⟨w.heap.size + 1 + 1, 1, none⟩ (.int .i64 B)).setCell ⟨w.heap.size + 1 + 1, 2, none⟩ (.int .i64 C)).setCell ⟨w.heap.size + 1 + 1, 3, none⟩ (.int .i64 D)).setCell ⟨w.heap.size + 1 + 1, 4, none⟩ (.int .i64 E) = WF at hb4 hf ⊢
  have hf2 : WF.drew.heap[w.heap.size + 1 + 1]? = some (.cells #[.int .i64 A, .int .i64 B, .int .i64 C, .int .i64 D, .int .i64 E] 83 (0, 0)) := hf
  exact ⟨run_loadVar_mid (P := Tryz.prog) _ (w.heap.size + 1 + 1) 0 83 [.int .i64 A, .int .i64 B, .int .i64 C, .int .i64 D, .int .i64 E] _ (range_of hf2) Tryz.underlying83 rfl (by kernel_rfl), hb4⟩

theorem cmpG_ref (g h : G5) : cmpG g h = (decide ((comG g h).a ≤ (comG g h).b) && (decide ((comG g h).c ≤ (comG g h).d) && ((g.e == 0) || ((h.e == 0) || (g.e == h.e))))) := by
  unfold cmpG comG
  simp only
  cases (g.e == h.e) <;> cases (g.e == 0) <;> cases (h.e == 0) <;> rfl

set_option maxRecDepth 100000 in
set_option maxHeartbeats 16000000 in
theorem both_any (g h : G5) (w : World) :
    Calls Tryz.prog 107 #[gg g.a g.b g.c g.d g.e, gg h.a h.b h.c h.d h.e] w fun e w' => e = .returned (.tuple #[gg (comG g h).a (comG g h).b (comG g h).c (comG g h).d (comG g h).e, .bool (cmpG g h)]) ∧ Below w.heap.size w w' := by
  have C1 := Lib.hid (fun W => refCommon_any g.a g.b h.a h.b W)
  have C2 := Lib.hid (fun W => refCommon_any g.c g.d h.c h.d W)
  have k1 : max g.a h.a = (comG g h).a := rfl
  have k2 : min g.b h.b = (comG g h).b := rfl
  have k3 : max g.c h.c = (comG g h).c := rfl
  have k4 : min g.d h.d = (comG g h).d := rfl
  have k5 : (comG g h).e = if (g.e == 0) = true then h.e else g.e := by unfold comG; simp
  rw [k1, k2] at C1
  rw [k3, k4] at C2
  rw [cmpG_ref]
  clear k1 k2 k3 k4
  generalize comG g h = k at C1 C2 k5 ⊢
  obtain ⟨A, B, C, D, E⟩ := k
  obtain ⟨ga, gb, gc, gd, ge⟩ := g
  obtain ⟨ha, hb, hc, hd, he⟩ := h
  simp only at C1 C2 k5 ⊢
  obtain ⟨x1, j1⟩ : ∃ x, decide (A ≤ B) = x := ⟨_, rfl⟩
  obtain ⟨x2, j2⟩ : ∃ x, decide (C ≤ D) = x := ⟨_, rfl⟩
  obtain ⟨x3, j3⟩ : ∃ x, (ge == he) = x := ⟨_, rfl⟩
  obtain ⟨x4, j4⟩ : ∃ x, (ge == 0) = x := ⟨_, rfl⟩
  obtain ⟨x5, j5⟩ : ∃ x, (he == 0) = x := ⟨_, rfl⟩
  rw [j1] at C1 ⊢
  rw [j2] at C2 ⊢
  rw [j3, j4, j5]
  rw [j4] at k5
  clear j1 j2
  obtain ⟨W0, hW0⟩ : ∃ W0, ((w.alloc (.cells #[.int .i64 ga, .int .i64 gb, .int .i64 gc, .int .i64 gd, .int .i64 ge] 83)).alloc (.cells #[.int .i64 ha, .int .i64 hb, .int .i64 hc, .int .i64 hd, .int .i64 he] 83)).alloc (.cells #[.int .i64 0, .int .i64 0, .int .i64 0, .int .i64 0, .int .i64 0] 83) = W0 := ⟨_, rfl⟩
  have y0 : W0.heap[w.heap.size]? = some (.cells #[.int .i64 ga, .int .i64 gb, .int .i64 gc, .int .i64 gd, .int .i64 ge] 83) := by
    rw [← hW0]; exact (alloc_heap_old _ _ (by simp; omega)).trans ((alloc_heap_old _ _ (by simp)).trans (alloc_heap_new _ _))
  have y1 : W0.heap[w.heap.size + 1]? = some (.cells #[.int .i64 ha, .int .i64 hb, .int .i64 hc, .int .i64 hd, .int .i64 he] 83) := by
    rw [← hW0]
    have := alloc_heap_new (w.alloc (.cells #[.int .i64 ga, .int .i64 gb, .int .i64 gc, .int .i64 gd, .int .i64 ge] 83)) (.cells #[.int .i64 ha, .int .i64 hb, .int .i64 hc, .int .i64 hd, .int .i64 he] 83)
    rw [World.size_alloc] at this
    exact (alloc_heap_old _ _ (by simp)).trans this
  have y2 : W0.heap[w.heap.size + 2]? = some (.cells #[.int .i64 0, .int .i64 0, .int .i64 0, .int .i64 0, .int .i64 0] 83) := by
    rw [← hW0]
    have := alloc_heap_new ((w.alloc (.cells #[.int .i64 ga, .int .i64 gb, .int .i64 gc, .int .i64 gd, .int .i64 ge] 83)).alloc (.cells #[.int .i64 ha, .int .i64 hb, .int .i64 hc, .int .i64 hd, .int .i64 he] 83)) (.cells #[.int .i64 0, .int .i64 0, .int .i64 0, .int .i64 0, .int .i64 0] 83)
    rwa [World.size_alloc, World.size_alloc] at this
  have bb : Below w.heap.size w W0 := by rw [← hW0]; exact (((Below.refl _ _).alloc (Nat.le_refl _) _).alloc (by simp) _).alloc (by simp; omega) _
  obtain ⟨p0, p1, p2, p3, p4⟩ := And.intro (cell_of y0 (k := 0) rfl) (And.intro (cell_of y0 (k := 1) rfl) (And.intro (cell_of y0 (k := 2) rfl) (And.intro (cell_of y0 (k := 3) rfl) (cell_of y0 (k := 4) rfl))))
  obtain ⟨q0, q1, q2, q3, q4⟩ := And.intro (cell_of y1 (k := 0) rfl) (And.intro (cell_of y1 (k := 1) rfl) (And.intro (cell_of y1 (k := 2) rfl) (And.intro (cell_of y1 (k := 3) rfl) (cell_of y1 (k := 4) rfl))))
  have K5 := Lib.hid k5
  clear k5
  go_enter Tryz.func107, Tryz.ntmps107
  go_wp2_with fail
  refine (C1.out _).mono ?_
  rintro e w1 ⟨rfl, hb1⟩
  have b1 := keep_below bb hb1
  replace y0 := (hb1.block _ (Array.getElem?_eq_some_iff.1 y0).1).trans y0
  replace y1 := (hb1.block _ (Array.getElem?_eq_some_iff.1 y1).1).trans y1
  replace y2 := (hb1.block _ (Array.getElem?_eq_some_iff.1 y2).1).trans y2
  have n1 := Lib.hid (Array.getElem?_eq_some_iff.1 y2).1
  clear p0 p1 p2 p3 p4 q0 q1 q2 q3 q4 hb1 bb hW0
  have hb2 : Below w1.heap.size w1 (w1.alloc (.cells #[.int .i64 A, .int .i64 B] 81)) := (Below.refl _ _).alloc (Nat.le_refl _) _
  have s1 := Sp.new w1 A B
  replace b1 := keep_below b1 hb2
  replace y0 := (hb2.block _ (Array.getElem?_eq_some_iff.1 y0).1).trans y0
  replace y1 := (hb2.block _ (Array.getElem?_eq_some_iff.1 y1).1).trans y1
  replace y2 := (hb2.block _ (Array.getElem?_eq_some_iff.1 y2).1).trans y2
  clear hb2
  obtain ⟨p0, p1, p2, p3, p4⟩ := And.intro (cell_of y0 (k := 0) rfl) (And.intro (cell_of y0 (k := 1) rfl) (And.intro (cell_of y0 (k := 2) rfl) (And.intro (cell_of y0 (k := 3) rfl) (cell_of y0 (k := 4) rfl))))
  obtain ⟨q0, q1, q2, q3, q4⟩ := And.intro (cell_of y1 (k := 0) rfl) (And.intro (cell_of y1 (k := 1) rfl) (And.intro (cell_of y1 (k := 2) rfl) (And.intro (cell_of y1 (k := 3) rfl) (cell_of y1 (k := 4) rfl))))
  go_wp2_with fail
  refine (C2.out _).mono ?_
  rintro e w2 ⟨rfl, hb1⟩
  replace b1 := keep_below b1 hb1
  replace y0 := (hb1.block _ (Array.getElem?_eq_some_iff.1 y0).1).trans y0
  replace y1 := (hb1.block _ (Array.getElem?_eq_some_iff.1 y1).1).trans y1
  replace y2 := (hb1.block _ (Array.getElem?_eq_some_iff.1 y2).1).trans y2
  replace s1 := s1.keep hb1
  clear p0 p1 p2 p3 p4 q0 q1 q2 q3 q4 hb1
  have hb2 : Below w2.heap.size w2 (w2.alloc (.cells #[.int .i64 C, .int .i64 D] 81)) := (Below.refl _ _).alloc (Nat.le_refl _) _
  have s2 := Sp.new w2 C D
  replace b1 := keep_below b1 hb2
  replace y0 := (hb2.block _ (Array.getElem?_eq_some_iff.1 y0).1).trans y0
  replace y1 := (hb2.block _ (Array.getElem?_eq_some_iff.1 y1).1).trans y1
  replace y2 := (hb2.block _ (Array.getElem?_eq_some_iff.1 y2).1).trans y2
  replace s1 := s1.keep hb2
  clear hb2
  obtain ⟨W3, hW3⟩ : ∃ W3, w2.alloc (.cells #[.int .i64 C, .int .i64 D] 81) = W3 := ⟨_, rfl⟩
  rw [hW3] at b1 y0 y1 y2 s1 s2
  have u0 := s1.c0
  have u1 := s1.c1
  have v0 := s2.c0
  have v1 := s2.c1
  obtain ⟨p0, p1, p2, p3, p4⟩ := And.intro (cell_of y0 (k := 0) rfl) (And.intro (cell_of y0 (k := 1) rfl) (And.intro (cell_of y0 (k := 2) rfl) (And.intro (cell_of y0 (k := 3) rfl) (cell_of y0 (k := 4) rfl))))
  obtain ⟨q0, q1, q2, q3, q4⟩ := And.intro (cell_of y1 (k := 0) rfl) (And.intro (cell_of y1 (k := 1) rfl) (And.intro (cell_of y1 (k := 2) rfl) (And.intro (cell_of y1 (k := 3) rfl) (cell_of y1 (k := 4) rfl))))
  have hb4 : Below W3.heap.size W3 (W3.alloc (.cells #[.int .i64 A, .int .i64 B, .int .i64 C, .int .i64 D, .int .i64 ge] 83)) := (Below.refl _ _).alloc (Nat.le_refl _) _
  have P4 := keep_cell hb4 p4
  have Q4 := keep_cell hb4 q4
  clear hb4
  cases x4
  · have hE : E = ge := by have := K5.out; simpa using this
    subst hE
    clear K5
    go_wp2_with fail
    clear P4 Q4 p0 p1 p2 p3 p4 q0 q1 q2 q3 q4 u0 u1 v0 v1 s1 s2 hW3
    have N4 := alloc_heap_new W3 (.cells #[.int .i64 A, .int .i64 B, .int .i64 C, .int .i64 D, .int .i64 E] 83)
    have hb4 : Below W3.heap.size W3 (W3.alloc (.cells #[.int .i64 A, .int .i64 B, .int .i64 C, .int .i64 D, .int .i64 E] 83)) := (Below.refl _ _).alloc (Nat.le_refl _) _
    replace b1 := keep_below b1 hb4
    replace y0 := (hb4.block _ (Array.getElem?_eq_some_iff.1 y0).1).trans y0
    replace y1 := (hb4.block _ (Array.getElem?_eq_some_iff.1 y1).1).trans y1
    have n2 := (Array.getElem?_eq_some_iff.1 y2).1
    replace y2 := (hb4.block _ n2).trans y2
    clear hb4
    obtain ⟨T, hT⟩ : ∃ T, W3.heap.size = T := ⟨_, rfl⟩
    rw [hT] at N4 n2
    generalize W3.alloc (.cells #[.int .i64 A, .int .i64 B, .int .i64 C, .int .i64 D, .int .i64 E] 83) = W4 at N4 b1 y0 y1 y2 ⊢
    rw [hT]
    clear hT
    obtain ⟨t0, t1, t2, t3, t4⟩ := And.intro (cell_of N4 (k := 0) rfl) (And.intro (cell_of N4 (k := 1) rfl) (And.intro (cell_of N4 (k := 2) rfl) (And.intro (cell_of N4 (k := 3) rfl) (cell_of N4 (k := 4) rfl))))
    obtain ⟨r0, r1, r2, r3, r4⟩ := And.intro (cell_of y2 (k := 0) rfl) (And.intro (cell_of y2 (k := 1) rfl) (And.intro (cell_of y2 (k := 2) rfl) (And.intro (cell_of y2 (k := 3) rfl) (cell_of y2 (k := 4) rfl))))
    have p4 := cell_of y0 (k := 4) rfl
    have q4 := cell_of y1 (k := 4) rfl
    have z0 : W4.frozen? ⟨w.heap.size + 2, 0, none⟩ = false := frozen_of y2
    have z1 : W4.frozen? ⟨w.heap.size + 2, 1, none⟩ = false := frozen_of y2
    have z2 : W4.frozen? ⟨w.heap.size + 2, 2, none⟩ = false := frozen_of y2
    have z3 : W4.frozen? ⟨w.heap.size + 2, 3, none⟩ = false := frozen_of y2
    have z4 : W4.frozen? ⟨w.heap.size + 2, 4, none⟩ = false := frozen_of y2
    have ne1 : w.heap.size + 2 ≠ T := by omega
    have HY := Lib.hid y2
    have HB := Lib.hid b1
    clear y0 y1 y2 N4 b1 n1 n2
    cases x1
    case' true => cases x2
    case' true.true => cases x5
    case' true.true.false => cases x3
    all_goals go_region
    all_goals simp only [Exit.then]
    all_goals go_at_K
    all_goals go_wp2
    all_goals have HFin := both_fin (A := A) (B := B) (C := C) (D := D) (E := E) HY.out HB.out
    all_goals exact bodyPost_ret (results_cell_tmp (fn := Tryz.f107) (p := ⟨w.heap.size + 1 + 1, 0, none⟩) rfl _ (by rfl) HFin.1) rfl ⟨rfl, HFin.2⟩
  · have hE : E = he := by have := K5.out; simpa using this
    subst hE
    clear K5
    go_wp2_with fail
    clear P4 Q4 p0 p1 p2 p3 p4 q0 q1 q2 q3 q4 u0 u1 v0 v1 s1 s2 hW3
    have N4 := alloc_heap_new W3 (.cells #[.int .i64 A, .int .i64 B, .int .i64 C, .int .i64 D, .int .i64 E] 83)
    have hb4 : Below W3.heap.size W3 (W3.alloc (.cells #[.int .i64 A, .int .i64 B, .int .i64 C, .int .i64 D, .int .i64 E] 83)) := (Below.refl _ _).alloc (Nat.le_refl _) _
    replace b1 := keep_below b1 hb4
    replace y0 := (hb4.block _ (Array.getElem?_eq_some_iff.1 y0).1).trans y0
    replace y1 := (hb4.block _ (Array.getElem?_eq_some_iff.1 y1).1).trans y1
    have n2 := (Array.getElem?_eq_some_iff.1 y2).1
    replace y2 := (hb4.block _ n2).trans y2
    clear hb4
    obtain ⟨T, hT⟩ : ∃ T, W3.heap.size = T := ⟨_, rfl⟩
    rw [hT] at N4 n2
    generalize W3.alloc (.cells #[.int .i64 A, .int .i64 B, .int .i64 C, .int .i64 D, .int .i64 E] 83) = W4 at N4 b1 y0 y1 y2 ⊢
    rw [hT]
    clear hT
    obtain ⟨t0, t1, t2, t3, t4⟩ := And.intro (cell_of N4 (k := 0) rfl) (And.intro (cell_of N4 (k := 1) rfl) (And.intro (cell_of N4 (k := 2) rfl) (And.intro (cell_of N4 (k := 3) rfl) (cell_of N4 (k := 4) rfl))))
    obtain ⟨r0, r1, r2, r3, r4⟩ := And.intro (cell_of y2 (k := 0) rfl) (And.intro (cell_of y2 (k := 1) rfl) (And.intro (cell_of y2 (k := 2) rfl) (And.intro (cell_of y2 (k := 3) rfl) (cell_of y2 (k := 4) rfl))))
    have p4 := cell_of y0 (k := 4) rfl
    have q4 := cell_of y1 (k := 4) rfl
    have z0 : W4.frozen? ⟨w.heap.size + 2, 0, none⟩ = false := frozen_of y2
    have z1 : W4.frozen? ⟨w.heap.size + 2, 1, none⟩ = false := frozen_of y2
    have z2 : W4.frozen? ⟨w.heap.size + 2, 2, none⟩ = false := frozen_of y2
    have z3 : W4.frozen? ⟨w.heap.size + 2, 3, none⟩ = false := frozen_of y2
    have z4 : W4.frozen? ⟨w.heap.size + 2, 4, none⟩ = false := frozen_of y2
    have ne1 : w.heap.size + 2 ≠ T := by omega
    have HY := Lib.hid y2
    have HB := Lib.hid b1
    clear y0 y1 y2 N4 b1 n1 n2
    cases x1
    case' true => cases x2
    all_goals go_region
    all_goals simp only [Exit.then]
    all_goals go_at_K
    all_goals go_wp2
    all_goals have HFin := both_fin (A := A) (B := B) (C := C) (D := D) (E := E) HY.out HB.out
    all_goals exact bodyPost_ret (results_cell_tmp (fn := Tryz.f107) (p := ⟨w.heap.size + 1 + 1, 0, none⟩) rfl _ (by rfl) HFin.1) rfl ⟨rfl, HFin.2⟩

end Go.Proofs.YtcfapbccegijnaaGreat
