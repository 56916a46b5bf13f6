/- Walks: united, where the pieces differ. -/
import Derived.Test.YtcfapbccegijnaaGreatSE
import Derived.Test.YtcfapbccegijnaaGreatZQ
import Derived.Test.YtcfapbccegijnaaGreatVZ
namespace Go.Proofs.YtcfapbccegijnaaGreat
open Go Go.RowKit Go.Proofs Go.Abs

set_option maxRecDepth 100000 in
set_option maxHeartbeats 32000000 in
theorem united_d0 (p q y : PcD) (sh : Int) (b : Bool) (agp amp agq amq : Option Addr) (gcp mcp gcq mcq : Nat) (w : World)
    (j0 : Hid (¬ y.c = q.c))
    (H51 : Hid (∀ W, Below w.heap.size w W → Calls Tryz.prog 51 #[pcs p.id p.c p.r p.m p.s (.slice agp p.G.length gcp) (.slice amp p.M.length mcp), st sh b] W fun e w' => ∃ v, e = .returned v ∧ PcV w' W.heap.size v y ∧ Below W.heap.size W w'))
    :
    Calls Tryz.prog 56 #[pcs p.id p.c p.r p.m p.s (.slice agp p.G.length gcp) (.slice amp p.M.length mcp), pcs q.id q.c q.r q.m q.s (.slice agq q.G.length gcq) (.slice amq q.M.length mcq), st sh b] w fun e w' => ∃ v, e = .returned (.tuple #[v, .bool false]) ∧ PcV w' w.heap.size v zeroD ∧ Below w.heap.size w w' := by
  obtain ⟨hp, hq, hs, hr, b1⟩ := pcs3_new w (pcsObj p.id p.c p.r p.m p.s (.slice agp p.G.length gcp) (.slice amp p.M.length mcp)) (pcsObj q.id q.c q.r q.m q.s (.slice agq q.G.length gcq) (.slice amq q.M.length mcq)) sh b
  obtain ⟨W0, hW0⟩ : ∃ W0, ((((w.alloc (pcsObj p.id p.c p.r p.m p.s (.slice agp p.G.length gcp) (.slice amp p.M.length mcp))).alloc (pcsObj q.id q.c q.r q.m q.s (.slice agq q.G.length gcq) (.slice amq q.M.length mcq))).alloc (stObj sh b)).alloc (.cells #[.int .i64 0, .int .i64 0, .int .i64 0, .int .i64 0, .int .i64 0, .slice none 0 0, .slice none 0 0] 25)) = W0 := ⟨_, rfl⟩
  rw [hW0] at hp hq hs hr b1
  obtain ⟨c0, c1, c2, c3, c4, c5, c6⟩ := And.intro (cell_of hp (k := 0) rfl) (And.intro (cell_of hp (k := 1) rfl) (And.intro (cell_of hp (k := 2) rfl) (And.intro (cell_of hp (k := 3) rfl) (And.intro (cell_of hp (k := 4) rfl) (And.intro (cell_of hp (k := 5) rfl) (cell_of hp (k := 6) rfl))))))
  obtain ⟨s0, s1⟩ := And.intro (cell_of hs (k := 0) rfl) (cell_of hs (k := 1) rfl)
  go_enter Tryz.func56, Tryz.ntmps56
  go_wp2_with fail
  refine (H51.out _ b1).mono ?_
  rintro e w4 ⟨v4, rfl, hv4, hb⟩
  obtain ⟨ag8, gc8, am8, mc8, rfl, hv4⟩ := hv4.pcs
  clear hW0 c0 c1 c2 c3 c4 c5 c6 s0 s1
  replace j0 := j0.out
  replace b1 := keep_below b1 hb
  replace hp := (hb.block _ (Array.getElem?_eq_some_iff.1 hp).1).trans hp
  replace hq := (hb.block _ (Array.getElem?_eq_some_iff.1 hq).1).trans hq
  replace hs := (hb.block _ (Array.getElem?_eq_some_iff.1 hs).1).trans hs
  replace hr := (hb.block _ (Array.getElem?_eq_some_iff.1 hr).1).trans hr
  clear hb
  have hb : Below w4.heap.size w4 (w4.alloc (.cells #[.int .i64 y.id, .int .i64 y.c, .int .i64 y.r, .int .i64 y.m, .int .i64 y.s, .slice ag8 y.G.length gc8, .slice am8 y.M.length mc8] 25)) := (Below.refl _ _).alloc (Nat.le_refl _) _
  have h8 := alloc_heap_new w4 (.cells #[.int .i64 y.id, .int .i64 y.c, .int .i64 y.r, .int .i64 y.m, .int .i64 y.s, .slice ag8 y.G.length gc8, .slice am8 y.M.length mc8] 25)
  have hv8 := (hv4.mono (Nat.zero_le _)).keep hb
  clear hv4
  replace b1 := keep_below b1 hb
  replace hp := (hb.block _ (Array.getElem?_eq_some_iff.1 hp).1).trans hp
  replace hq := (hb.block _ (Array.getElem?_eq_some_iff.1 hq).1).trans hq
  replace hs := (hb.block _ (Array.getElem?_eq_some_iff.1 hs).1).trans hs
  replace hr := (hb.block _ (Array.getElem?_eq_some_iff.1 hr).1).trans hr
  clear hb
  obtain ⟨e0, e1, e2, e3, e4, e5, e6⟩ := And.intro (cell_of h8 (k := 0) rfl) (And.intro (cell_of h8 (k := 1) rfl) (And.intro (cell_of h8 (k := 2) rfl) (And.intro (cell_of h8 (k := 3) rfl) (And.intro (cell_of h8 (k := 4) rfl) (And.intro (cell_of h8 (k := 5) rfl) (cell_of h8 (k := 6) rfl))))))
  obtain ⟨c0, c1, c2, c3, c4, c5, c6⟩ := And.intro (cell_of hq (k := 0) rfl) (And.intro (cell_of hq (k := 1) rfl) (And.intro (cell_of hq (k := 2) rfl) (And.intro (cell_of hq (k := 3) rfl) (And.intro (cell_of hq (k := 4) rfl) (And.intro (cell_of hq (k := 5) rfl) (cell_of hq (k := 6) rfl))))))
  obtain ⟨z0, z1, z2, z3, z4, z5, z6⟩ := And.intro (cell_of hr (k := 0) rfl) (And.intro (cell_of hr (k := 1) rfl) (And.intro (cell_of hr (k := 2) rfl) (And.intro (cell_of hr (k := 3) rfl) (And.intro (cell_of hr (k := 4) rfl) (And.intro (cell_of hr (k := 5) rfl) (cell_of hr (k := 6) rfl))))))
  have f0 : (w4.alloc (.cells #[.int .i64 y.id, .int .i64 y.c, .int .i64 y.r, .int .i64 y.m, .int .i64 y.s, .slice ag8 y.G.length gc8, .slice am8 y.M.length mc8] 25)).frozen? ⟨w.heap.size + 3, 0, none⟩ = false := frozen_of hr
  have f1 : (w4.alloc (.cells #[.int .i64 y.id, .int .i64 y.c, .int .i64 y.r, .int .i64 y.m, .int .i64 y.s, .slice ag8 y.G.length gc8, .slice am8 y.M.length mc8] 25)).frozen? ⟨w.heap.size + 3, 1, none⟩ = false := frozen_of hr
  have f2 : (w4.alloc (.cells #[.int .i64 y.id, .int .i64 y.c, .int .i64 y.r, .int .i64 y.m, .int .i64 y.s, .slice ag8 y.G.length gc8, .slice am8 y.M.length mc8] 25)).frozen? ⟨w.heap.size + 3, 2, none⟩ = false := frozen_of hr
  have f3 : (w4.alloc (.cells #[.int .i64 y.id, .int .i64 y.c, .int .i64 y.r, .int .i64 y.m, .int .i64 y.s, .slice ag8 y.G.length gc8, .slice am8 y.M.length mc8] 25)).frozen? ⟨w.heap.size + 3, 3, none⟩ = false := frozen_of hr
  have f4 : (w4.alloc (.cells #[.int .i64 y.id, .int .i64 y.c, .int .i64 y.r, .int .i64 y.m, .int .i64 y.s, .slice ag8 y.G.length gc8, .slice am8 y.M.length mc8] 25)).frozen? ⟨w.heap.size + 3, 4, none⟩ = false := frozen_of hr
  have f5 : (w4.alloc (.cells #[.int .i64 y.id, .int .i64 y.c, .int .i64 y.r, .int .i64 y.m, .int .i64 y.s, .slice ag8 y.G.length gc8, .slice am8 y.M.length mc8] 25)).frozen? ⟨w.heap.size + 3, 5, none⟩ = false := frozen_of hr
  have f6 : (w4.alloc (.cells #[.int .i64 y.id, .int .i64 y.c, .int .i64 y.r, .int .i64 y.m, .int .i64 y.s, .slice ag8 y.G.length gc8, .slice am8 y.M.length mc8] 25)).frozen? ⟨w.heap.size + 3, 6, none⟩ = false := frozen_of hr
  have hlt := (Array.getElem?_eq_some_iff.1 hr).1
  go_wp2_with fail
  obtain ⟨WF, hWF⟩ : ∃ WF, (((((((w4.alloc (.cells #[.int .i64 y.id, .int .i64 y.c, .int .i64 y.r, .int .i64 y.m, .int .i64 y.s, .slice ag8 y.G.length gc8, .slice am8 y.M.length mc8] 25)).setCell ⟨w.heap.size + 1 + 1 + 1, 0, none⟩ (.int .i64 0)).setCell ⟨w.heap.size + 1 + 1 + 1, 1, none⟩ (.int .i64 0)).setCell ⟨w.heap.size + 1 + 1 + 1, 2, none⟩ (.int .i64 0)).setCell ⟨w.heap.size + 1 + 1 + 1, 3, none⟩ (.int .i64 0)).setCell ⟨w.heap.size + 1 + 1 + 1, 4, none⟩ (.int .i64 0)).setCell ⟨w.heap.size + 1 + 1 + 1, 5, none⟩ (.slice none 0 0)).setCell ⟨w.heap.size + 1 + 1 + 1, 6, none⟩ (.slice none 0 0) = WF := ⟨_, rfl⟩
  rw [hWF]
  have hf : WF.heap[w.heap.size + 1 + 1 + 1]? = some (.cells #[.int .i64 0, .int .i64 0, .int .i64 0, .int .i64 0, .int .i64 0, .slice none 0 0, .slice none 0 0] 25 (0, 0)) := by
    rw [← hWF]
    exact res7 hr
  have hb4 : Below w.heap.size w WF := by
    rw [← hWF]
    exact ((((((b1.setCell (p := ⟨w.heap.size + 1 + 1 + 1, 0, none⟩) (by simp; omega) _).setCell (p := ⟨w.heap.size + 1 + 1 + 1, 1, none⟩) (by simp; omega) _).setCell (p := ⟨w.heap.size + 1 + 1 + 1, 2, none⟩) (by simp; omega) _).setCell (p := ⟨w.heap.size + 1 + 1 + 1, 3, none⟩) (by simp; omega) _).setCell (p := ⟨w.heap.size + 1 + 1 + 1, 4, none⟩) (by simp; omega) _).setCell (p := ⟨w.heap.size + 1 + 1 + 1, 5, none⟩) (by simp; omega) _).setCell (p := ⟨w.heap.size + 1 + 1 + 1, 6, none⟩) (by simp; omega) _
  have hl := run_loadVar_mid (P := Tryz.prog) _ (w.heap.size + 1 + 1 + 1) 0 25 [.int .i64 0, .int .i64 0, .int .i64 0, .int .i64 0, .int .i64 0, .slice none 0 0, .slice none 0 0] _ (range_of hf) Tryz.underlying25 rfl (by kernel_rfl)
  refine bodyPost_ret (results_cell_tmp (fn := Tryz.f56) rfl _ (by rfl) hl) rfl ?_
  exact ⟨_, rfl, PcV.zero _ _, hb4⟩

set_option maxRecDepth 100000 in
set_option maxHeartbeats 32000000 in
theorem united_d1 (p q y : PcD) (sh : Int) (b : Bool) (agp amp agq amq : Option Addr) (gcp mcp gcq mcq : Nat) (w : World)
    (j0 : Hid (q.c = y.c))    (j1 : Hid (¬ y.r = q.r))
    (H51 : Hid (∀ W, Below w.heap.size w W → Calls Tryz.prog 51 #[pcs p.id p.c p.r p.m p.s (.slice agp p.G.length gcp) (.slice amp p.M.length mcp), st sh b] W fun e w' => ∃ v, e = .returned v ∧ PcV w' W.heap.size v y ∧ Below W.heap.size W w'))
    :
    Calls Tryz.prog 56 #[pcs p.id p.c p.r p.m p.s (.slice agp p.G.length gcp) (.slice amp p.M.length mcp), pcs q.id q.c q.r q.m q.s (.slice agq q.G.length gcq) (.slice amq q.M.length mcq), st sh b] w fun e w' => ∃ v, e = .returned (.tuple #[v, .bool false]) ∧ PcV w' w.heap.size v zeroD ∧ Below w.heap.size w w' := by
  obtain ⟨hp, hq, hs, hr, b1⟩ := pcs3_new w (pcsObj p.id p.c p.r p.m p.s (.slice agp p.G.length gcp) (.slice amp p.M.length mcp)) (pcsObj q.id q.c q.r q.m q.s (.slice agq q.G.length gcq) (.slice amq q.M.length mcq)) sh b
  obtain ⟨W0, hW0⟩ : ∃ W0, ((((w.alloc (pcsObj p.id p.c p.r p.m p.s (.slice agp p.G.length gcp) (.slice amp p.M.length mcp))).alloc (pcsObj q.id q.c q.r q.m q.s (.slice agq q.G.length gcq) (.slice amq q.M.length mcq))).alloc (stObj sh b)).alloc (.cells #[.int .i64 0, .int .i64 0, .int .i64 0, .int .i64 0, .int .i64 0, .slice none 0 0, .slice none 0 0] 25)) = W0 := ⟨_, rfl⟩
  rw [hW0] at hp hq hs hr b1
  obtain ⟨c0, c1, c2, c3, c4, c5, c6⟩ := And.intro (cell_of hp (k := 0) rfl) (And.intro (cell_of hp (k := 1) rfl) (And.intro (cell_of hp (k := 2) rfl) (And.intro (cell_of hp (k := 3) rfl) (And.intro (cell_of hp (k := 4) rfl) (And.intro (cell_of hp (k := 5) rfl) (cell_of hp (k := 6) rfl))))))
  obtain ⟨s0, s1⟩ := And.intro (cell_of hs (k := 0) rfl) (cell_of hs (k := 1) rfl)
  go_enter Tryz.func56, Tryz.ntmps56
  go_wp2_with fail
  refine (H51.out _ b1).mono ?_
  rintro e w4 ⟨v4, rfl, hv4, hb⟩
  obtain ⟨ag8, gc8, am8, mc8, rfl, hv4⟩ := hv4.pcs
  clear hW0 c0 c1 c2 c3 c4 c5 c6 s0 s1
  replace j0 := j0.out
  replace j1 := j1.out
  replace b1 := keep_below b1 hb
  replace hp := (hb.block _ (Array.getElem?_eq_some_iff.1 hp).1).trans hp
  replace hq := (hb.block _ (Array.getElem?_eq_some_iff.1 hq).1).trans hq
  replace hs := (hb.block _ (Array.getElem?_eq_some_iff.1 hs).1).trans hs
  replace hr := (hb.block _ (Array.getElem?_eq_some_iff.1 hr).1).trans hr
  clear hb
  have hb : Below w4.heap.size w4 (w4.alloc (.cells #[.int .i64 y.id, .int .i64 y.c, .int .i64 y.r, .int .i64 y.m, .int .i64 y.s, .slice ag8 y.G.length gc8, .slice am8 y.M.length mc8] 25)) := (Below.refl _ _).alloc (Nat.le_refl _) _
  have h8 := alloc_heap_new w4 (.cells #[.int .i64 y.id, .int .i64 y.c, .int .i64 y.r, .int .i64 y.m, .int .i64 y.s, .slice ag8 y.G.length gc8, .slice am8 y.M.length mc8] 25)
  have hv8 := (hv4.mono (Nat.zero_le _)).keep hb
  clear hv4
  replace b1 := keep_below b1 hb
  replace hp := (hb.block _ (Array.getElem?_eq_some_iff.1 hp).1).trans hp
  replace hq := (hb.block _ (Array.getElem?_eq_some_iff.1 hq).1).trans hq
  replace hs := (hb.block _ (Array.getElem?_eq_some_iff.1 hs).1).trans hs
  replace hr := (hb.block _ (Array.getElem?_eq_some_iff.1 hr).1).trans hr
  clear hb
  obtain ⟨e0, e1, e2, e3, e4, e5, e6⟩ := And.intro (cell_of h8 (k := 0) rfl) (And.intro (cell_of h8 (k := 1) rfl) (And.intro (cell_of h8 (k := 2) rfl) (And.intro (cell_of h8 (k := 3) rfl) (And.intro (cell_of h8 (k := 4) rfl) (And.intro (cell_of h8 (k := 5) rfl) (cell_of h8 (k := 6) rfl))))))
  obtain ⟨c0, c1, c2, c3, c4, c5, c6⟩ := And.intro (cell_of hq (k := 0) rfl) (And.intro (cell_of hq (k := 1) rfl) (And.intro (cell_of hq (k := 2) rfl) (And.intro (cell_of hq (k := 3) rfl) (And.intro (cell_of hq (k := 4) rfl) (And.intro (cell_of hq (k := 5) rfl) (cell_of hq (k := 6) rfl))))))
  obtain ⟨z0, z1, z2, z3, z4, z5, z6⟩ := And.intro (cell_of hr (k := 0) rfl) (And.intro (cell_of hr (k := 1) rfl) (And.intro (cell_of hr (k := 2) rfl) (And.intro (cell_of hr (k := 3) rfl) (And.intro (cell_of hr (k := 4) rfl) (And.intro (cell_of hr (k := 5) rfl) (cell_of hr (k := 6) rfl))))))
  have f0 : (w4.alloc (.cells #[.int .i64 y.id, .int .i64 y.c, .int .i64 y.r, .int .i64 y.m, .int .i64 y.s, .slice ag8 y.G.length gc8, .slice am8 y.M.length mc8] 25)).frozen? ⟨w.heap.size + 3, 0, none⟩ = false := frozen_of hr
  have f1 : (w4.alloc (.cells #[.int .i64 y.id, .int .i64 y.c, .int .i64 y.r, .int .i64 y.m, .int .i64 y.s, .slice ag8 y.G.length gc8, .slice am8 y.M.length mc8] 25)).frozen? ⟨w.heap.size + 3, 1, none⟩ = false := frozen_of hr
  have f2 : (w4.alloc (.cells #[.int .i64 y.id, .int .i64 y.c, .int .i64 y.r, .int .i64 y.m, .int .i64 y.s, .slice ag8 y.G.length gc8, .slice am8 y.M.length mc8] 25)).frozen? ⟨w.heap.size + 3, 2, none⟩ = false := frozen_of hr
  have f3 : (w4.alloc (.cells #[.int .i64 y.id, .int .i64 y.c, .int .i64 y.r, .int .i64 y.m, .int .i64 y.s, .slice ag8 y.G.length gc8, .slice am8 y.M.length mc8] 25)).frozen? ⟨w.heap.size + 3, 3, none⟩ = false := frozen_of hr
  have f4 : (w4.alloc (.cells #[.int .i64 y.id, .int .i64 y.c, .int .i64 y.r, .int .i64 y.m, .int .i64 y.s, .slice ag8 y.G.length gc8, .slice am8 y.M.length mc8] 25)).frozen? ⟨w.heap.size + 3, 4, none⟩ = false := frozen_of hr
  have f5 : (w4.alloc (.cells #[.int .i64 y.id, .int .i64 y.c, .int .i64 y.r, .int .i64 y.m, .int .i64 y.s, .slice ag8 y.G.length gc8, .slice am8 y.M.length mc8] 25)).frozen? ⟨w.heap.size + 3, 5, none⟩ = false := frozen_of hr
  have f6 : (w4.alloc (.cells #[.int .i64 y.id, .int .i64 y.c, .int .i64 y.r, .int .i64 y.m, .int .i64 y.s, .slice ag8 y.G.length gc8, .slice am8 y.M.length mc8] 25)).frozen? ⟨w.heap.size + 3, 6, none⟩ = false := frozen_of hr
  have hlt := (Array.getElem?_eq_some_iff.1 hr).1
  go_wp2_with fail
  obtain ⟨WF, hWF⟩ : ∃ WF, (((((((w4.alloc (.cells #[.int .i64 y.id, .int .i64 y.c, .int .i64 y.r, .int .i64 y.m, .int .i64 y.s, .slice ag8 y.G.length gc8, .slice am8 y.M.length mc8] 25)).setCell ⟨w.heap.size + 1 + 1 + 1, 0, none⟩ (.int .i64 0)).setCell ⟨w.heap.size + 1 + 1 + 1, 1, none⟩ (.int .i64 0)).setCell ⟨w.heap.size + 1 + 1 + 1, 2, none⟩ (.int .i64 0)).setCell ⟨w.heap.size + 1 + 1 + 1, 3, none⟩ (.int .i64 0)).setCell ⟨w.heap.size + 1 + 1 + 1, 4, none⟩ (.int .i64 0)).setCell ⟨w.heap.size + 1 + 1 + 1, 5, none⟩ (.slice none 0 0)).setCell ⟨w.heap.size + 1 + 1 + 1, 6, none⟩ (.slice none 0 0) = WF := ⟨_, rfl⟩
  rw [hWF]
  have hf : WF.heap[w.heap.size + 1 + 1 + 1]? = some (.cells #[.int .i64 0, .int .i64 0, .int .i64 0, .int .i64 0, .int .i64 0, .slice none 0 0, .slice none 0 0] 25 (0, 0)) := by
    rw [← hWF]
    exact res7 hr
  have hb4 : Below w.heap.size w WF := by
    rw [← hWF]
    exact ((((((b1.setCell (p := ⟨w.heap.size + 1 + 1 + 1, 0, none⟩) (by simp; omega) _).setCell (p := ⟨w.heap.size + 1 + 1 + 1, 1, none⟩) (by simp; omega) _).setCell (p := ⟨w.heap.size + 1 + 1 + 1, 2, none⟩) (by simp; omega) _).setCell (p := ⟨w.heap.size + 1 + 1 + 1, 3, none⟩) (by simp; omega) _).setCell (p := ⟨w.heap.size + 1 + 1 + 1, 4, none⟩) (by simp; omega) _).setCell (p := ⟨w.heap.size + 1 + 1 + 1, 5, none⟩) (by simp; omega) _).setCell (p := ⟨w.heap.size + 1 + 1 + 1, 6, none⟩) (by simp; omega) _
  have hl := run_loadVar_mid (P := Tryz.prog) _ (w.heap.size + 1 + 1 + 1) 0 25 [.int .i64 0, .int .i64 0, .int .i64 0, .int .i64 0, .int .i64 0, .slice none 0 0, .slice none 0 0] _ (range_of hf) Tryz.underlying25 rfl (by kernel_rfl)
  refine bodyPost_ret (results_cell_tmp (fn := Tryz.f56) rfl _ (by rfl) hl) rfl ?_
  exact ⟨_, rfl, PcV.zero _ _, hb4⟩

set_option maxRecDepth 100000 in
set_option maxHeartbeats 32000000 in
theorem united_d2 (p q y : PcD) (sh : Int) (b : Bool) (agp amp agq amq : Option Addr) (gcp mcp gcq mcq : Nat) (w : World)
    (j0 : Hid (q.c = y.c))    (j1 : Hid (q.r = y.r))    (j2 : Hid (¬ y.m = q.m))
    (H51 : Hid (∀ W, Below w.heap.size w W → Calls Tryz.prog 51 #[pcs p.id p.c p.r p.m p.s (.slice agp p.G.length gcp) (.slice amp p.M.length mcp), st sh b] W fun e w' => ∃ v, e = .returned v ∧ PcV w' W.heap.size v y ∧ Below W.heap.size W w'))
    :
    Calls Tryz.prog 56 #[pcs p.id p.c p.r p.m p.s (.slice agp p.G.length gcp) (.slice amp p.M.length mcp), pcs q.id q.c q.r q.m q.s (.slice agq q.G.length gcq) (.slice amq q.M.length mcq), st sh b] w fun e w' => ∃ v, e = .returned (.tuple #[v, .bool false]) ∧ PcV w' w.heap.size v zeroD ∧ Below w.heap.size w w' := by
  obtain ⟨hp, hq, hs, hr, b1⟩ := pcs3_new w (pcsObj p.id p.c p.r p.m p.s (.slice agp p.G.length gcp) (.slice amp p.M.length mcp)) (pcsObj q.id q.c q.r q.m q.s (.slice agq q.G.length gcq) (.slice amq q.M.length mcq)) sh b
  obtain ⟨W0, hW0⟩ : ∃ W0, ((((w.alloc (pcsObj p.id p.c p.r p.m p.s (.slice agp p.G.length gcp) (.slice amp p.M.length mcp))).alloc (pcsObj q.id q.c q.r q.m q.s (.slice agq q.G.length gcq) (.slice amq q.M.length mcq))).alloc (stObj sh b)).alloc (.cells #[.int .i64 0, .int .i64 0, .int .i64 0, .int .i64 0, .int .i64 0, .slice none 0 0, .slice none 0 0] 25)) = W0 := ⟨_, rfl⟩
  rw [hW0] at hp hq hs hr b1
  obtain ⟨c0, c1, c2, c3, c4, c5, c6⟩ := And.intro (cell_of hp (k := 0) rfl) (And.intro (cell_of hp (k := 1) rfl) (And.intro (cell_of hp (k := 2) rfl) (And.intro (cell_of hp (k := 3) rfl) (And.intro (cell_of hp (k := 4) rfl) (And.intro (cell_of hp (k := 5) rfl) (cell_of hp (k := 6) rfl))))))
  obtain ⟨s0, s1⟩ := And.intro (cell_of hs (k := 0) rfl) (cell_of hs (k := 1) rfl)
  go_enter Tryz.func56, Tryz.ntmps56
  go_wp2_with fail
  refine (H51.out _ b1).mono ?_
  rintro e w4 ⟨v4, rfl, hv4, hb⟩
  obtain ⟨ag8, gc8, am8, mc8, rfl, hv4⟩ := hv4.pcs
  clear hW0 c0 c1 c2 c3 c4 c5 c6 s0 s1
  replace j0 := j0.out
  replace j1 := j1.out
  replace j2 := j2.out
  replace b1 := keep_below b1 hb
  replace hp := (hb.block _ (Array.getElem?_eq_some_iff.1 hp).1).trans hp
  replace hq := (hb.block _ (Array.getElem?_eq_some_iff.1 hq).1).trans hq
  replace hs := (hb.block _ (Array.getElem?_eq_some_iff.1 hs).1).trans hs
  replace hr := (hb.block _ (Array.getElem?_eq_some_iff.1 hr).1).trans hr
  clear hb
  have hb : Below w4.heap.size w4 (w4.alloc (.cells #[.int .i64 y.id, .int .i64 y.c, .int .i64 y.r, .int .i64 y.m, .int .i64 y.s, .slice ag8 y.G.length gc8, .slice am8 y.M.length mc8] 25)) := (Below.refl _ _).alloc (Nat.le_refl _) _
  have h8 := alloc_heap_new w4 (.cells #[.int .i64 y.id, .int .i64 y.c, .int .i64 y.r, .int .i64 y.m, .int .i64 y.s, .slice ag8 y.G.length gc8, .slice am8 y.M.length mc8] 25)
  have hv8 := (hv4.mono (Nat.zero_le _)).keep hb
  clear hv4
  replace b1 := keep_below b1 hb
  replace hp := (hb.block _ (Array.getElem?_eq_some_iff.1 hp).1).trans hp
  replace hq := (hb.block _ (Array.getElem?_eq_some_iff.1 hq).1).trans hq
  replace hs := (hb.block _ (Array.getElem?_eq_some_iff.1 hs).1).trans hs
  replace hr := (hb.block _ (Array.getElem?_eq_some_iff.1 hr).1).trans hr
  clear hb
  obtain ⟨e0, e1, e2, e3, e4, e5, e6⟩ := And.intro (cell_of h8 (k := 0) rfl) (And.intro (cell_of h8 (k := 1) rfl) (And.intro (cell_of h8 (k := 2) rfl) (And.intro (cell_of h8 (k := 3) rfl) (And.intro (cell_of h8 (k := 4) rfl) (And.intro (cell_of h8 (k := 5) rfl) (cell_of h8 (k := 6) rfl))))))
  obtain ⟨c0, c1, c2, c3, c4, c5, c6⟩ := And.intro (cell_of hq (k := 0) rfl) (And.intro (cell_of hq (k := 1) rfl) (And.intro (cell_of hq (k := 2) rfl) (And.intro (cell_of hq (k := 3) rfl) (And.intro (cell_of hq (k := 4) rfl) (And.intro (cell_of hq (k := 5) rfl) (cell_of hq (k := 6) rfl))))))
  obtain ⟨z0, z1, z2, z3, z4, z5, z6⟩ := And.intro (cell_of hr (k := 0) rfl) (And.intro (cell_of hr (k := 1) rfl) (And.intro (cell_of hr (k := 2) rfl) (And.intro (cell_of hr (k := 3) rfl) (And.intro (cell_of hr (k := 4) rfl) (And.intro (cell_of hr (k := 5) rfl) (cell_of hr (k := 6) rfl))))))
  have f0 : (w4.alloc (.cells #[.int .i64 y.id, .int .i64 y.c, .int .i64 y.r, .int .i64 y.m, .int .i64 y.s, .slice ag8 y.G.length gc8, .slice am8 y.M.length mc8] 25)).frozen? ⟨w.heap.size + 3, 0, none⟩ = false := frozen_of hr
  have f1 : (w4.alloc (.cells #[.int .i64 y.id, .int .i64 y.c, .int .i64 y.r, .int .i64 y.m, .int .i64 y.s, .slice ag8 y.G.length gc8, .slice am8 y.M.length mc8] 25)).frozen? ⟨w.heap.size + 3, 1, none⟩ = false := frozen_of hr
  have f2 : (w4.alloc (.cells #[.int .i64 y.id, .int .i64 y.c, .int .i64 y.r, .int .i64 y.m, .int .i64 y.s, .slice ag8 y.G.length gc8, .slice am8 y.M.length mc8] 25)).frozen? ⟨w.heap.size + 3, 2, none⟩ = false := frozen_of hr
  have f3 : (w4.alloc (.cells #[.int .i64 y.id, .int .i64 y.c, .int .i64 y.r, .int .i64 y.m, .int .i64 y.s, .slice ag8 y.G.length gc8, .slice am8 y.M.length mc8] 25)).frozen? ⟨w.heap.size + 3, 3, none⟩ = false := frozen_of hr
  have f4 : (w4.alloc (.cells #[.int .i64 y.id, .int .i64 y.c, .int .i64 y.r, .int .i64 y.m, .int .i64 y.s, .slice ag8 y.G.length gc8, .slice am8 y.M.length mc8] 25)).frozen? ⟨w.heap.size + 3, 4, none⟩ = false := frozen_of hr
  have f5 : (w4.alloc (.cells #[.int .i64 y.id, .int .i64 y.c, .int .i64 y.r, .int .i64 y.m, .int .i64 y.s, .slice ag8 y.G.length gc8, .slice am8 y.M.length mc8] 25)).frozen? ⟨w.heap.size + 3, 5, none⟩ = false := frozen_of hr
  have f6 : (w4.alloc (.cells #[.int .i64 y.id, .int .i64 y.c, .int .i64 y.r, .int .i64 y.m, .int .i64 y.s, .slice ag8 y.G.length gc8, .slice am8 y.M.length mc8] 25)).frozen? ⟨w.heap.size + 3, 6, none⟩ = false := frozen_of hr
  have hlt := (Array.getElem?_eq_some_iff.1 hr).1
  go_wp2_with fail
  obtain ⟨WF, hWF⟩ : ∃ WF, (((((((w4.alloc (.cells #[.int .i64 y.id, .int .i64 y.c, .int .i64 y.r, .int .i64 y.m, .int .i64 y.s, .slice ag8 y.G.length gc8, .slice am8 y.M.length mc8] 25)).setCell ⟨w.heap.size + 1 + 1 + 1, 0, none⟩ (.int .i64 0)).setCell ⟨w.heap.size + 1 + 1 + 1, 1, none⟩ (.int .i64 0)).setCell ⟨w.heap.size + 1 + 1 + 1, 2, none⟩ (.int .i64 0)).setCell ⟨w.heap.size + 1 + 1 + 1, 3, none⟩ (.int .i64 0)).setCell ⟨w.heap.size + 1 + 1 + 1, 4, none⟩ (.int .i64 0)).setCell ⟨w.heap.size + 1 + 1 + 1, 5, none⟩ (.slice none 0 0)).setCell ⟨w.heap.size + 1 + 1 + 1, 6, none⟩ (.slice none 0 0) = WF := ⟨_, rfl⟩
  rw [hWF]
  have hf : WF.heap[w.heap.size + 1 + 1 + 1]? = some (.cells #[.int .i64 0, .int .i64 0, .int .i64 0, .int .i64 0, .int .i64 0, .slice none 0 0, .slice none 0 0] 25 (0, 0)) := by
    rw [← hWF]
    exact res7 hr
  have hb4 : Below w.heap.size w WF := by
    rw [← hWF]
    exact ((((((b1.setCell (p := ⟨w.heap.size + 1 + 1 + 1, 0, none⟩) (by simp; omega) _).setCell (p := ⟨w.heap.size + 1 + 1 + 1, 1, none⟩) (by simp; omega) _).setCell (p := ⟨w.heap.size + 1 + 1 + 1, 2, none⟩) (by simp; omega) _).setCell (p := ⟨w.heap.size + 1 + 1 + 1, 3, none⟩) (by simp; omega) _).setCell (p := ⟨w.heap.size + 1 + 1 + 1, 4, none⟩) (by simp; omega) _).setCell (p := ⟨w.heap.size + 1 + 1 + 1, 5, none⟩) (by simp; omega) _).setCell (p := ⟨w.heap.size + 1 + 1 + 1, 6, none⟩) (by simp; omega) _
  have hl := run_loadVar_mid (P := Tryz.prog) _ (w.heap.size + 1 + 1 + 1) 0 25 [.int .i64 0, .int .i64 0, .int .i64 0, .int .i64 0, .int .i64 0, .slice none 0 0, .slice none 0 0] _ (range_of hf) Tryz.underlying25 rfl (by kernel_rfl)
  refine bodyPost_ret (results_cell_tmp (fn := Tryz.f56) rfl _ (by rfl) hl) rfl ?_
  exact ⟨_, rfl, PcV.zero _ _, hb4⟩

set_option maxRecDepth 100000 in
set_option maxHeartbeats 32000000 in
theorem united_d3 (p q y : PcD) (sh : Int) (b : Bool) (agp amp agq amq : Option Addr) (gcp mcp gcq mcq : Nat) (w : World)
    (j0 : Hid (q.c = y.c))    (j1 : Hid (q.r = y.r))    (j2 : Hid (q.m = y.m))    (j3 : Hid (¬ y.s = q.s))
    (H51 : Hid (∀ W, Below w.heap.size w W → Calls Tryz.prog 51 #[pcs p.id p.c p.r p.m p.s (.slice agp p.G.length gcp) (.slice amp p.M.length mcp), st sh b] W fun e w' => ∃ v, e = .returned v ∧ PcV w' W.heap.size v y ∧ Below W.heap.size W w'))
    :
    Calls Tryz.prog 56 #[pcs p.id p.c p.r p.m p.s (.slice agp p.G.length gcp) (.slice amp p.M.length mcp), pcs q.id q.c q.r q.m q.s (.slice agq q.G.length gcq) (.slice amq q.M.length mcq), st sh b] w fun e w' => ∃ v, e = .returned (.tuple #[v, .bool false]) ∧ PcV w' w.heap.size v zeroD ∧ Below w.heap.size w w' := by
  obtain ⟨hp, hq, hs, hr, b1⟩ := pcs3_new w (pcsObj p.id p.c p.r p.m p.s (.slice agp p.G.length gcp) (.slice amp p.M.length mcp)) (pcsObj q.id q.c q.r q.m q.s (.slice agq q.G.length gcq) (.slice amq q.M.length mcq)) sh b
  obtain ⟨W0, hW0⟩ : ∃ W0, ((((w.alloc (pcsObj p.id p.c p.r p.m p.s (.slice agp p.G.length gcp) (.slice amp p.M.length mcp))).alloc (pcsObj q.id q.c q.r q.m q.s (.slice agq q.G.length gcq) (.slice amq q.M.length mcq))).alloc (stObj sh b)).alloc (.cells #[.int .i64 0, .int .i64 0, .int .i64 0, .int .i64 0, .int .i64 0, .slice none 0 0, .slice none 0 0] 25)) = W0 := ⟨_, rfl⟩
  rw [hW0] at hp hq hs hr b1
  obtain ⟨c0, c1, c2, c3, c4, c5, c6⟩ := And.intro (cell_of hp (k := 0) rfl) (And.intro (cell_of hp (k := 1) rfl) (And.intro (cell_of hp (k := 2) rfl) (And.intro (cell_of hp (k := 3) rfl) (And.intro (cell_of hp (k := 4) rfl) (And.intro (cell_of hp (k := 5) rfl) (cell_of hp (k := 6) rfl))))))
  obtain ⟨s0, s1⟩ := And.intro (cell_of hs (k := 0) rfl) (cell_of hs (k := 1) rfl)
  go_enter Tryz.func56, Tryz.ntmps56
  go_wp2_with fail
  refine (H51.out _ b1).mono ?_
  rintro e w4 ⟨v4, rfl, hv4, hb⟩
  obtain ⟨ag8, gc8, am8, mc8, rfl, hv4⟩ := hv4.pcs
  clear hW0 c0 c1 c2 c3 c4 c5 c6 s0 s1
  replace j0 := j0.out
  replace j1 := j1.out
  replace j2 := j2.out
  replace j3 := j3.out
  replace b1 := keep_below b1 hb
  replace hp := (hb.block _ (Array.getElem?_eq_some_iff.1 hp).1).trans hp
  replace hq := (hb.block _ (Array.getElem?_eq_some_iff.1 hq).1).trans hq
  replace hs := (hb.block _ (Array.getElem?_eq_some_iff.1 hs).1).trans hs
  replace hr := (hb.block _ (Array.getElem?_eq_some_iff.1 hr).1).trans hr
  clear hb
  have hb : Below w4.heap.size w4 (w4.alloc (.cells #[.int .i64 y.id, .int .i64 y.c, .int .i64 y.r, .int .i64 y.m, .int .i64 y.s, .slice ag8 y.G.length gc8, .slice am8 y.M.length mc8] 25)) := (Below.refl _ _).alloc (Nat.le_refl _) _
  have h8 := alloc_heap_new w4 (.cells #[.int .i64 y.id, .int .i64 y.c, .int .i64 y.r, .int .i64 y.m, .int .i64 y.s, .slice ag8 y.G.length gc8, .slice am8 y.M.length mc8] 25)
  have hv8 := (hv4.mono (Nat.zero_le _)).keep hb
  clear hv4
  replace b1 := keep_below b1 hb
  replace hp := (hb.block _ (Array.getElem?_eq_some_iff.1 hp).1).trans hp
  replace hq := (hb.block _ (Array.getElem?_eq_some_iff.1 hq).1).trans hq
  replace hs := (hb.block _ (Array.getElem?_eq_some_iff.1 hs).1).trans hs
  replace hr := (hb.block _ (Array.getElem?_eq_some_iff.1 hr).1).trans hr
  clear hb
  obtain ⟨e0, e1, e2, e3, e4, e5, e6⟩ := And.intro (cell_of h8 (k := 0) rfl) (And.intro (cell_of h8 (k := 1) rfl) (And.intro (cell_of h8 (k := 2) rfl) (And.intro (cell_of h8 (k := 3) rfl) (And.intro (cell_of h8 (k := 4) rfl) (And.intro (cell_of h8 (k := 5) rfl) (cell_of h8 (k := 6) rfl))))))
  obtain ⟨c0, c1, c2, c3, c4, c5, c6⟩ := And.intro (cell_of hq (k := 0) rfl) (And.intro (cell_of hq (k := 1) rfl) (And.intro (cell_of hq (k := 2) rfl) (And.intro (cell_of hq (k := 3) rfl) (And.intro (cell_of hq (k := 4) rfl) (And.intro (cell_of hq (k := 5) rfl) (cell_of hq (k := 6) rfl))))))
  obtain ⟨z0, z1, z2, z3, z4, z5, z6⟩ := And.intro (cell_of hr (k := 0) rfl) (And.intro (cell_of hr (k := 1) rfl) (And.intro (cell_of hr (k := 2) rfl) (And.intro (cell_of hr (k := 3) rfl) (And.intro (cell_of hr (k := 4) rfl) (And.intro (cell_of hr (k := 5) rfl) (cell_of hr (k := 6) rfl))))))
  have f0 : (w4.alloc (.cells #[.int .i64 y.id, .int .i64 y.c, .int .i64 y.r, .int .i64 y.m, .int .i64 y.s, .slice ag8 y.G.length gc8, .slice am8 y.M.length mc8] 25)).frozen? ⟨w.heap.size + 3, 0, none⟩ = false := frozen_of hr
  have f1 : (w4.alloc (.cells #[.int .i64 y.id, .int .i64 y.c, .int .i64 y.r, .int .i64 y.m, .int .i64 y.s, .slice ag8 y.G.length gc8, .slice am8 y.M.length mc8] 25)).frozen? ⟨w.heap.size + 3, 1, none⟩ = false := frozen_of hr
  have f2 : (w4.alloc (.cells #[.int .i64 y.id, .int .i64 y.c, .int .i64 y.r, .int .i64 y.m, .int .i64 y.s, .slice ag8 y.G.length gc8, .slice am8 y.M.length mc8] 25)).frozen? ⟨w.heap.size + 3, 2, none⟩ = false := frozen_of hr
  have f3 : (w4.alloc (.cells #[.int .i64 y.id, .int .i64 y.c, .int .i64 y.r, .int .i64 y.m, .int .i64 y.s, .slice ag8 y.G.length gc8, .slice am8 y.M.length mc8] 25)).frozen? ⟨w.heap.size + 3, 3, none⟩ = false := frozen_of hr
  have f4 : (w4.alloc (.cells #[.int .i64 y.id, .int .i64 y.c, .int .i64 y.r, .int .i64 y.m, .int .i64 y.s, .slice ag8 y.G.length gc8, .slice am8 y.M.length mc8] 25)).frozen? ⟨w.heap.size + 3, 4, none⟩ = false := frozen_of hr
  have f5 : (w4.alloc (.cells #[.int .i64 y.id, .int .i64 y.c, .int .i64 y.r, .int .i64 y.m, .int .i64 y.s, .slice ag8 y.G.length gc8, .slice am8 y.M.length mc8] 25)).frozen? ⟨w.heap.size + 3, 5, none⟩ = false := frozen_of hr
  have f6 : (w4.alloc (.cells #[.int .i64 y.id, .int .i64 y.c, .int .i64 y.r, .int .i64 y.m, .int .i64 y.s, .slice ag8 y.G.length gc8, .slice am8 y.M.length mc8] 25)).frozen? ⟨w.heap.size + 3, 6, none⟩ = false := frozen_of hr
  have hlt := (Array.getElem?_eq_some_iff.1 hr).1
  go_wp2_with fail
  obtain ⟨WF, hWF⟩ : ∃ WF, (((((((w4.alloc (.cells #[.int .i64 y.id, .int .i64 y.c, .int .i64 y.r, .int .i64 y.m, .int .i64 y.s, .slice ag8 y.G.length gc8, .slice am8 y.M.length mc8] 25)).setCell ⟨w.heap.size + 1 + 1 + 1, 0, none⟩ (.int .i64 0)).setCell ⟨w.heap.size + 1 + 1 + 1, 1, none⟩ (.int .i64 0)).setCell ⟨w.heap.size + 1 + 1 + 1, 2, none⟩ (.int .i64 0)).setCell ⟨w.heap.size + 1 + 1 + 1, 3, none⟩ (.int .i64 0)).setCell ⟨w.heap.size + 1 + 1 + 1, 4, none⟩ (.int .i64 0)).setCell ⟨w.heap.size + 1 + 1 + 1, 5, none⟩ (.slice none 0 0)).setCell ⟨w.heap.size + 1 + 1 + 1, 6, none⟩ (.slice none 0 0) = WF := ⟨_, rfl⟩
  rw [hWF]
  have hf : WF.heap[w.heap.size + 1 + 1 + 1]? = some (.cells #[.int .i64 0, .int .i64 0, .int .i64 0, .int .i64 0, .int .i64 0, .slice none 0 0, .slice none 0 0] 25 (0, 0)) := by
    rw [← hWF]
    exact res7 hr
  have hb4 : Below w.heap.size w WF := by
    rw [← hWF]
    exact ((((((b1.setCell (p := ⟨w.heap.size + 1 + 1 + 1, 0, none⟩) (by simp; omega) _).setCell (p := ⟨w.heap.size + 1 + 1 + 1, 1, none⟩) (by simp; omega) _).setCell (p := ⟨w.heap.size + 1 + 1 + 1, 2, none⟩) (by simp; omega) _).setCell (p := ⟨w.heap.size + 1 + 1 + 1, 3, none⟩) (by simp; omega) _).setCell (p := ⟨w.heap.size + 1 + 1 + 1, 4, none⟩) (by simp; omega) _).setCell (p := ⟨w.heap.size + 1 + 1 + 1, 5, none⟩) (by simp; omega) _).setCell (p := ⟨w.heap.size + 1 + 1 + 1, 6, none⟩) (by simp; omega) _
  have hl := run_loadVar_mid (P := Tryz.prog) _ (w.heap.size + 1 + 1 + 1) 0 25 [.int .i64 0, .int .i64 0, .int .i64 0, .int .i64 0, .int .i64 0, .slice none 0 0, .slice none 0 0] _ (range_of hf) Tryz.underlying25 rfl (by kernel_rfl)
  refine bodyPost_ret (results_cell_tmp (fn := Tryz.f56) rfl _ (by rfl) hl) rfl ?_
  exact ⟨_, rfl, PcV.zero _ _, hb4⟩

set_option maxRecDepth 100000 in
set_option maxHeartbeats 32000000 in
theorem united_d4 (p q y : PcD) (sh : Int) (b : Bool) (agp amp agq amq : Option Addr) (gcp mcp gcq mcq : Nat) (w : World)
    (j0 : Hid (q.c = y.c))    (j1 : Hid (q.r = y.r))    (j2 : Hid (q.m = y.m))    (j3 : Hid (q.s = y.s))
    (H51 : Hid (∀ W, Below w.heap.size w W → Calls Tryz.prog 51 #[pcs p.id p.c p.r p.m p.s (.slice agp p.G.length gcp) (.slice amp p.M.length mcp), st sh b] W fun e w' => ∃ v, e = .returned v ∧ PcV w' W.heap.size v y ∧ Below W.heap.size W w'))
    (H24 : Hid (∀ W am mc, Below w.heap.size w W → SlM W (.slice am y.M.length mc) y.M → Calls Tryz.prog 24 #[.slice am y.M.length mc, .slice amq q.M.length mcq] W fun e w' => e = .returned (.bool false) ∧ Below W.heap.size W w'))
    :
    Calls Tryz.prog 56 #[pcs p.id p.c p.r p.m p.s (.slice agp p.G.length gcp) (.slice amp p.M.length mcp), pcs q.id q.c q.r q.m q.s (.slice agq q.G.length gcq) (.slice amq q.M.length mcq), st sh b] w fun e w' => ∃ v, e = .returned (.tuple #[v, .bool false]) ∧ PcV w' w.heap.size v zeroD ∧ Below w.heap.size w w' := by
  obtain ⟨hp, hq, hs, hr, b1⟩ := pcs3_new w (pcsObj p.id p.c p.r p.m p.s (.slice agp p.G.length gcp) (.slice amp p.M.length mcp)) (pcsObj q.id q.c q.r q.m q.s (.slice agq q.G.length gcq) (.slice amq q.M.length mcq)) sh b
  obtain ⟨W0, hW0⟩ : ∃ W0, ((((w.alloc (pcsObj p.id p.c p.r p.m p.s (.slice agp p.G.length gcp) (.slice amp p.M.length mcp))).alloc (pcsObj q.id q.c q.r q.m q.s (.slice agq q.G.length gcq) (.slice amq q.M.length mcq))).alloc (stObj sh b)).alloc (.cells #[.int .i64 0, .int .i64 0, .int .i64 0, .int .i64 0, .int .i64 0, .slice none 0 0, .slice none 0 0] 25)) = W0 := ⟨_, rfl⟩
  rw [hW0] at hp hq hs hr b1
  obtain ⟨c0, c1, c2, c3, c4, c5, c6⟩ := And.intro (cell_of hp (k := 0) rfl) (And.intro (cell_of hp (k := 1) rfl) (And.intro (cell_of hp (k := 2) rfl) (And.intro (cell_of hp (k := 3) rfl) (And.intro (cell_of hp (k := 4) rfl) (And.intro (cell_of hp (k := 5) rfl) (cell_of hp (k := 6) rfl))))))
  obtain ⟨s0, s1⟩ := And.intro (cell_of hs (k := 0) rfl) (cell_of hs (k := 1) rfl)
  go_enter Tryz.func56, Tryz.ntmps56
  go_wp2_with fail
  refine (H51.out _ b1).mono ?_
  rintro e w4 ⟨v4, rfl, hv4, hb⟩
  obtain ⟨ag8, gc8, am8, mc8, rfl, hv4⟩ := hv4.pcs
  clear hW0 c0 c1 c2 c3 c4 c5 c6 s0 s1
  replace j0 := j0.out
  replace j1 := j1.out
  replace j2 := j2.out
  replace j3 := j3.out
  replace b1 := keep_below b1 hb
  replace hp := (hb.block _ (Array.getElem?_eq_some_iff.1 hp).1).trans hp
  replace hq := (hb.block _ (Array.getElem?_eq_some_iff.1 hq).1).trans hq
  replace hs := (hb.block _ (Array.getElem?_eq_some_iff.1 hs).1).trans hs
  replace hr := (hb.block _ (Array.getElem?_eq_some_iff.1 hr).1).trans hr
  clear hb
  have hb : Below w4.heap.size w4 (w4.alloc (.cells #[.int .i64 y.id, .int .i64 y.c, .int .i64 y.r, .int .i64 y.m, .int .i64 y.s, .slice ag8 y.G.length gc8, .slice am8 y.M.length mc8] 25)) := (Below.refl _ _).alloc (Nat.le_refl _) _
  have h8 := alloc_heap_new w4 (.cells #[.int .i64 y.id, .int .i64 y.c, .int .i64 y.r, .int .i64 y.m, .int .i64 y.s, .slice ag8 y.G.length gc8, .slice am8 y.M.length mc8] 25)
  have hv8 := (hv4.mono (Nat.zero_le _)).keep hb
  clear hv4
  replace b1 := keep_below b1 hb
  replace hp := (hb.block _ (Array.getElem?_eq_some_iff.1 hp).1).trans hp
  replace hq := (hb.block _ (Array.getElem?_eq_some_iff.1 hq).1).trans hq
  replace hs := (hb.block _ (Array.getElem?_eq_some_iff.1 hs).1).trans hs
  replace hr := (hb.block _ (Array.getElem?_eq_some_iff.1 hr).1).trans hr
  clear hb
  obtain ⟨e0, e1, e2, e3, e4, e5, e6⟩ := And.intro (cell_of h8 (k := 0) rfl) (And.intro (cell_of h8 (k := 1) rfl) (And.intro (cell_of h8 (k := 2) rfl) (And.intro (cell_of h8 (k := 3) rfl) (And.intro (cell_of h8 (k := 4) rfl) (And.intro (cell_of h8 (k := 5) rfl) (cell_of h8 (k := 6) rfl))))))
  obtain ⟨c0, c1, c2, c3, c4, c5, c6⟩ := And.intro (cell_of hq (k := 0) rfl) (And.intro (cell_of hq (k := 1) rfl) (And.intro (cell_of hq (k := 2) rfl) (And.intro (cell_of hq (k := 3) rfl) (And.intro (cell_of hq (k := 4) rfl) (And.intro (cell_of hq (k := 5) rfl) (cell_of hq (k := 6) rfl))))))
  obtain ⟨vg8, vm8, ev, -, hM8, -, -⟩ := hv8
  simp only [Value.agg.injEq, Array.mk.injEq, List.cons.injEq, and_true] at ev
  obtain ⟨-, -, -, -, -, rfl, rfl⟩ := ev
  go_wp2_with fail
  refine (H24.out _ _ _ b1 hM8).mono ?_
  rintro e w5 ⟨rfl, hb⟩
  clear e0 e1 e2 e3 e4 e5 e6 c0 c1 c2 c3 c4 c5 c6
  replace b1 := keep_below b1 hb
  replace hp := (hb.block _ (Array.getElem?_eq_some_iff.1 hp).1).trans hp
  replace hq := (hb.block _ (Array.getElem?_eq_some_iff.1 hq).1).trans hq
  replace hs := (hb.block _ (Array.getElem?_eq_some_iff.1 hs).1).trans hs
  replace hr := (hb.block _ (Array.getElem?_eq_some_iff.1 hr).1).trans hr
  obtain ⟨z0, z1, z2, z3, z4, z5, z6⟩ := And.intro (cell_of hr (k := 0) rfl) (And.intro (cell_of hr (k := 1) rfl) (And.intro (cell_of hr (k := 2) rfl) (And.intro (cell_of hr (k := 3) rfl) (And.intro (cell_of hr (k := 4) rfl) (And.intro (cell_of hr (k := 5) rfl) (cell_of hr (k := 6) rfl))))))
  have f0 : w5.frozen? ⟨w.heap.size + 3, 0, none⟩ = false := frozen_of hr
  have f1 : w5.frozen? ⟨w.heap.size + 3, 1, none⟩ = false := frozen_of hr
  have f2 : w5.frozen? ⟨w.heap.size + 3, 2, none⟩ = false := frozen_of hr
  have f3 : w5.frozen? ⟨w.heap.size + 3, 3, none⟩ = false := frozen_of hr
  have f4 : w5.frozen? ⟨w.heap.size + 3, 4, none⟩ = false := frozen_of hr
  have f5 : w5.frozen? ⟨w.heap.size + 3, 5, none⟩ = false := frozen_of hr
  have f6 : w5.frozen? ⟨w.heap.size + 3, 6, none⟩ = false := frozen_of hr
  have hlt := (Array.getElem?_eq_some_iff.1 hr).1
  go_wp2_with fail
  obtain ⟨WF, hWF⟩ : ∃ WF, ((((((w5.setCell ⟨w.heap.size + 1 + 1 + 1, 0, none⟩ (.int .i64 0)).setCell ⟨w.heap.size + 1 + 1 + 1, 1, none⟩ (.int .i64 0)).setCell ⟨w.heap.size + 1 + 1 + 1, 2, none⟩ (.int .i64 0)).setCell ⟨w.heap.size + 1 + 1 + 1, 3, none⟩ (.int .i64 0)).setCell ⟨w.heap.size + 1 + 1 + 1, 4, none⟩ (.int .i64 0)).setCell ⟨w.heap.size + 1 + 1 + 1, 5, none⟩ (.slice none 0 0)).setCell ⟨w.heap.size + 1 + 1 + 1, 6, none⟩ (.slice none 0 0) = WF := ⟨_, rfl⟩
  rw [hWF]
  have hf : WF.heap[w.heap.size + 1 + 1 + 1]? = some (.cells #[.int .i64 0, .int .i64 0, .int .i64 0, .int .i64 0, .int .i64 0, .slice none 0 0, .slice none 0 0] 25 (0, 0)) := by
    rw [← hWF]
    exact res7 hr
  have hb4 : Below w.heap.size w WF := by
    rw [← hWF]
    exact ((((((b1.setCell (p := ⟨w.heap.size + 1 + 1 + 1, 0, none⟩) (by simp; omega) _).setCell (p := ⟨w.heap.size + 1 + 1 + 1, 1, none⟩) (by simp; omega) _).setCell (p := ⟨w.heap.size + 1 + 1 + 1, 2, none⟩) (by simp; omega) _).setCell (p := ⟨w.heap.size + 1 + 1 + 1, 3, none⟩) (by simp; omega) _).setCell (p := ⟨w.heap.size + 1 + 1 + 1, 4, none⟩) (by simp; omega) _).setCell (p := ⟨w.heap.size + 1 + 1 + 1, 5, none⟩) (by simp; omega) _).setCell (p := ⟨w.heap.size + 1 + 1 + 1, 6, none⟩) (by simp; omega) _
  have hl := run_loadVar_mid (P := Tryz.prog) _ (w.heap.size + 1 + 1 + 1) 0 25 [.int .i64 0, .int .i64 0, .int .i64 0, .int .i64 0, .int .i64 0, .slice none 0 0, .slice none 0 0] _ (range_of hf) Tryz.underlying25 rfl (by kernel_rfl)
  refine bodyPost_ret (results_cell_tmp (fn := Tryz.f56) rfl _ (by rfl) hl) rfl ?_
  exact ⟨_, rfl, PcV.zero _ _, hb4⟩

end Go.Proofs.YtcfapbccegijnaaGreat
