/- The abstract machine, part SI. -/
import Derived.Test.YtcfapbccegijnaaGreatSH
/- united, put together. -/
namespace Go.Proofs.YtcfapbccegijnaaGreat
open Go Go.RowKit Go.Proofs Go.Abs

theorem alk_eq (y q : PcD) : alk y q = ((y.c == q.c) && ((y.r == q.r) && ((y.m == q.m) && ((y.s == q.s) && (eqM y.M q.M && cmpL y.G q.G))))) := rfl

theorem united_any (p q : PcD) (sh : Int) (b : Bool) (vg vm vg' vm' : Value) (w : World) (hG : SlG w vg p.G) (hM : SlM w vm p.M) (hG' : SlG w vg' q.G) (hM' : SlM w vm' q.M)
    (hp : p.ok = true) (hq : q.ok = true) (hs : vset sh p.G.length = true) (hl : p.G.length = q.G.length) :
    Calls Tryz.prog 56 #[pcs p.id p.c p.r p.m p.s vg vm, pcs q.id q.c q.r q.m q.s vg' vm', st sh b] w fun e w' => ∃ v, e = .returned (.tuple #[v, .bool (alk (rsD p sh.toNat b) q)]) ∧ PcV w' w.heap.size v (if alk (rsD p sh.toNat b) q then mgD (rsD p sh.toNat b) q else zeroD) ∧ Below w.heap.size w w' := by
  obtain ⟨agp, gcp, rfl, -⟩ := _root_.id hG
  obtain ⟨amp, mcp, rfl, -⟩ := _root_.id hM
  obtain ⟨agq, gcq, rfl, -⟩ := _root_.id hG'
  obtain ⟨amq, mcq, rfl, -⟩ := _root_.id hM'
  obtain ⟨es, ls⟩ := vset_nat hs
  obtain ⟨h3, -, -⟩ := ok_parts hq
  have hy : (rsD p sh.toNat b).sm := ok_sm (rsD_ok b hp ls)
  have hyl : (rsD p sh.toNat b).G.length = q.G.length := (rsD_len p sh.toNat b).trans hl
  have K51 := Lib.hid (fun W (hW : Below w.heap.size w W) => reset51_any p _ _ sh b W (hG.keep hW) (hM.keep hW) hp hs)
  have K24 := Lib.hid (fun W am mc (hW : Below w.heap.size w W) (hm : SlM W (.slice am (rsD p sh.toNat b).M.length mc) (rsD p sh.toNat b).M) => eqMarks24_any W hm (hM'.keep hW) hy.2 (ok_sm hq).2)
  generalize rsD p sh.toNat b = y at hy hyl K51 K24 ⊢
  have F : ∀ (P : Value → World → Prop), alk y q = false → (Calls Tryz.prog 56 #[pcs p.id p.c p.r p.m p.s (.slice agp p.G.length gcp) (.slice amp p.M.length mcp), pcs q.id q.c q.r q.m q.s (.slice agq q.G.length gcq) (.slice amq q.M.length mcq), st sh b] w fun e w' => ∃ v, e = .returned (.tuple #[v, .bool false]) ∧ PcV w' w.heap.size v zeroD ∧ Below w.heap.size w w') → Calls Tryz.prog 56 #[pcs p.id p.c p.r p.m p.s (.slice agp p.G.length gcp) (.slice amp p.M.length mcp), pcs q.id q.c q.r q.m q.s (.slice agq q.G.length gcq) (.slice amq q.M.length mcq), st sh b] w fun e w' => ∃ v, e = .returned (.tuple #[v, .bool (alk y q)]) ∧ PcV w' w.heap.size v (if alk y q then mgD y q else zeroD) ∧ Below w.heap.size w w' := fun _ ha h => by
    rw [ha]
    exact h
  by_cases e0 : y.c = q.c
  · by_cases e1 : y.r = q.r
    · by_cases e2 : y.m = q.m
      · by_cases e3 : y.s = q.s
        · cases e4 : eqM y.M q.M
          · rw [e4] at K24
            exact F (fun _ _ => True) (by rw [alk_eq, e4]; simp) (united_d4 p q y sh b agp amp agq amq gcp mcp gcq mcq w (Lib.hid e0.symm) (Lib.hid e1.symm) (Lib.hid e2.symm) (Lib.hid e3.symm) K51 K24)
          · rw [e4] at K24
            have ha : alk y q = cmpL y.G q.G := by rw [alk_eq, e4, e0, e1, e2, e3]; simp
            exact united_same p q y sh b agp amp agq amq gcp mcp gcq mcq w (Lib.hid e0.symm) (Lib.hid e1.symm) (Lib.hid e2.symm) (Lib.hid e3.symm) K51 K24 (Lib.hid hM') hG' (Lib.hid hyl) h3.2 (by omega) (ok_sm hq).2 (alk y q) (if alk y q then mgD y q else zeroD) (Lib.hid ha.symm) (Lib.hid rfl)
        · exact F (fun _ _ => True) (by rw [alk_eq, show (y.s == q.s) = false by simpa using e3]; simp) (united_d3 p q y sh b agp amp agq amq gcp mcp gcq mcq w (Lib.hid e0.symm) (Lib.hid e1.symm) (Lib.hid e2.symm) (Lib.hid e3) K51)
      · exact F (fun _ _ => True) (by rw [alk_eq, show (y.m == q.m) = false by simpa using e2]; simp) (united_d2 p q y sh b agp amp agq amq gcp mcp gcq mcq w (Lib.hid e0.symm) (Lib.hid e1.symm) (Lib.hid e2) K51)
    · exact F (fun _ _ => True) (by rw [alk_eq, show (y.r == q.r) = false by simpa using e1]; simp) (united_d1 p q y sh b agp amp agq amq gcp mcp gcq mcq w (Lib.hid e0.symm) (Lib.hid e1) K51)
  · exact F (fun _ _ => True) (by rw [alk_eq, show (y.c == q.c) = false by simpa using e0]; simp) (united_d0 p q y sh b agp amp agq amq gcp mcp gcq mcq w (Lib.hid e0) K51)

end Go.Proofs.YtcfapbccegijnaaGreat

/- Walks: Merge of the reference. -/
namespace Go.Proofs.YtcfapbccegijnaaGreat
open Go Go.RowKit Go.Proofs Go.Abs

set_option maxRecDepth 100000 in
set_option maxHeartbeats 16000000 in
theorem merge28_b1 (p q : PcD) (sh : Int) (b : Bool) (agp amp agq amq : Option Addr) (gcp mcp gcq mcq : Nat) (w : World)
    (H1 : Hid (∀ W, Below w.heap.size w W → Calls Tryz.prog 35 #[pcs p.id p.c p.r p.m p.s (.slice agp p.G.length gcp) (.slice amp p.M.length mcp)] W fun e w' => e = .returned (.bool false) ∧ Below W.heap.size W w'))
    :
    Calls Tryz.prog 28 #[pcs p.id p.c p.r p.m p.s (.slice agp p.G.length gcp) (.slice amp p.M.length mcp), pcs q.id q.c q.r q.m q.s (.slice agq q.G.length gcq) (.slice amq q.M.length mcq), st sh b] w fun e w' => ∃ v, e = .returned (.tuple #[v, .int .i64 30]) ∧ PcV w' w.heap.size v zeroD ∧ Below w.heap.size w w' := by
  obtain ⟨hp, hq, hs, hr, b1⟩ := pcs3_new w (pcsObj p.id p.c p.r p.m p.s (.slice agp p.G.length gcp) (.slice amp p.M.length mcp)) (pcsObj q.id q.c q.r q.m q.s (.slice agq q.G.length gcq) (.slice amq q.M.length mcq)) sh b
  obtain ⟨W0, hW0⟩ : ∃ W0, ((((w.alloc (pcsObj p.id p.c p.r p.m p.s (.slice agp p.G.length gcp) (.slice amp p.M.length mcp))).alloc (pcsObj q.id q.c q.r q.m q.s (.slice agq q.G.length gcq) (.slice amq q.M.length mcq))).alloc (stObj sh b)).alloc (.cells #[.int .i64 0, .int .i64 0, .int .i64 0, .int .i64 0, .int .i64 0, .slice none 0 0, .slice none 0 0] 25)) = W0 := ⟨_, rfl⟩
  rw [hW0] at hp hq hs hr b1
  obtain ⟨c0, c1, c2, c3, c4, c5, c6⟩ := And.intro (cell_of hp (k := 0) rfl) (And.intro (cell_of hp (k := 1) rfl) (And.intro (cell_of hp (k := 2) rfl) (And.intro (cell_of hp (k := 3) rfl) (And.intro (cell_of hp (k := 4) rfl) (And.intro (cell_of hp (k := 5) rfl) (cell_of hp (k := 6) rfl))))))
  go_enter Tryz.func28, Tryz.ntmps28
  go_wp2_with fail
  refine (H1.out _ b1).mono ?_
  rintro e w1 ⟨rfl, hb⟩
  clear hW0 c0 c1 c2 c3 c4 c5 c6
  replace b1 := keep_below b1 hb
  replace hp := (hb.block _ (Array.getElem?_eq_some_iff.1 hp).1).trans hp
  replace hq := (hb.block _ (Array.getElem?_eq_some_iff.1 hq).1).trans hq
  replace hs := (hb.block _ (Array.getElem?_eq_some_iff.1 hs).1).trans hs
  replace hr := (hb.block _ (Array.getElem?_eq_some_iff.1 hr).1).trans hr
  clear hb
  obtain ⟨z0, z1, z2, z3, z4, z5, z6⟩ := And.intro (cell_of hr (k := 0) rfl) (And.intro (cell_of hr (k := 1) rfl) (And.intro (cell_of hr (k := 2) rfl) (And.intro (cell_of hr (k := 3) rfl) (And.intro (cell_of hr (k := 4) rfl) (And.intro (cell_of hr (k := 5) rfl) (cell_of hr (k := 6) rfl))))))
  have f0 : w1.frozen? ⟨w.heap.size + 3, 0, none⟩ = false := frozen_of hr
  have f1 : w1.frozen? ⟨w.heap.size + 3, 1, none⟩ = false := frozen_of hr
  have f2 : w1.frozen? ⟨w.heap.size + 3, 2, none⟩ = false := frozen_of hr
  have f3 : w1.frozen? ⟨w.heap.size + 3, 3, none⟩ = false := frozen_of hr
  have f4 : w1.frozen? ⟨w.heap.size + 3, 4, none⟩ = false := frozen_of hr
  have f5 : w1.frozen? ⟨w.heap.size + 3, 5, none⟩ = false := frozen_of hr
  have f6 : w1.frozen? ⟨w.heap.size + 3, 6, none⟩ = false := frozen_of hr
  have hlt := (Array.getElem?_eq_some_iff.1 hr).1
  go_wp2_with fail
  obtain ⟨WF, hWF⟩ : ∃ WF, ((((((w1.setCell ⟨w.heap.size + 3, 0, none⟩ (.int .i64 0)).setCell ⟨w.heap.size + 3, 1, none⟩ (.int .i64 0)).setCell ⟨w.heap.size + 3, 2, none⟩ (.int .i64 0)).setCell ⟨w.heap.size + 3, 3, none⟩ (.int .i64 0)).setCell ⟨w.heap.size + 3, 4, none⟩ (.int .i64 0)).setCell ⟨w.heap.size + 3, 5, none⟩ (.slice none 0 0)).setCell ⟨w.heap.size + 3, 6, none⟩ (.slice none 0 0) = WF := ⟨_, rfl⟩
  rw [hWF]
  have hf : WF.heap[w.heap.size + 3]? = some (.cells #[.int .i64 0, .int .i64 0, .int .i64 0, .int .i64 0, .int .i64 0, .slice none 0 0, .slice none 0 0] 25 (0, 0)) := by
    rw [← hWF]
    exact res7 hr
  have hb4 : Below w.heap.size w WF := by
    rw [← hWF]
    exact ((((((b1.setCell (p := ⟨w.heap.size + 3, 0, none⟩) (by simp) _).setCell (p := ⟨w.heap.size + 3, 1, none⟩) (by simp) _).setCell (p := ⟨w.heap.size + 3, 2, none⟩) (by simp) _).setCell (p := ⟨w.heap.size + 3, 3, none⟩) (by simp) _).setCell (p := ⟨w.heap.size + 3, 4, none⟩) (by simp) _).setCell (p := ⟨w.heap.size + 3, 5, none⟩) (by simp) _).setCell (p := ⟨w.heap.size + 3, 6, none⟩) (by simp) _
  have hl := run_loadVar_mid (P := Tryz.prog) _ (w.heap.size + 3) 0 25 [.int .i64 0, .int .i64 0, .int .i64 0, .int .i64 0, .int .i64 0, .slice none 0 0, .slice none 0 0] _ (range_of hf) Tryz.underlying25 rfl (by kernel_rfl)
  refine bodyPost_ret (results_cell_tmp (fn := Tryz.f28) rfl _ (by rfl) hl) rfl ?_
  exact ⟨_, rfl, PcV.zero _ _, hb4⟩

set_option maxRecDepth 100000 in
set_option maxHeartbeats 16000000 in
theorem merge28_b2 (p q : PcD) (sh : Int) (b : Bool) (agp amp agq amq : Option Addr) (gcp mcp gcq mcq : Nat) (w : World)
    (H1 : Hid (∀ W, Below w.heap.size w W → Calls Tryz.prog 35 #[pcs p.id p.c p.r p.m p.s (.slice agp p.G.length gcp) (.slice amp p.M.length mcp)] W fun e w' => e = .returned (.bool true) ∧ Below W.heap.size W w'))
    (H2 : Hid (∀ W, Below w.heap.size w W → Calls Tryz.prog 35 #[pcs q.id q.c q.r q.m q.s (.slice agq q.G.length gcq) (.slice amq q.M.length mcq)] W fun e w' => e = .returned (.bool false) ∧ Below W.heap.size W w'))
    :
    Calls Tryz.prog 28 #[pcs p.id p.c p.r p.m p.s (.slice agp p.G.length gcp) (.slice amp p.M.length mcp), pcs q.id q.c q.r q.m q.s (.slice agq q.G.length gcq) (.slice amq q.M.length mcq), st sh b] w fun e w' => ∃ v, e = .returned (.tuple #[v, .int .i64 30]) ∧ PcV w' w.heap.size v zeroD ∧ Below w.heap.size w w' := by
  obtain ⟨hp, hq, hs, hr, b1⟩ := pcs3_new w (pcsObj p.id p.c p.r p.m p.s (.slice agp p.G.length gcp) (.slice amp p.M.length mcp)) (pcsObj q.id q.c q.r q.m q.s (.slice agq q.G.length gcq) (.slice amq q.M.length mcq)) sh b
  obtain ⟨W0, hW0⟩ : ∃ W0, ((((w.alloc (pcsObj p.id p.c p.r p.m p.s (.slice agp p.G.length gcp) (.slice amp p.M.length mcp))).alloc (pcsObj q.id q.c q.r q.m q.s (.slice agq q.G.length gcq) (.slice amq q.M.length mcq))).alloc (stObj sh b)).alloc (.cells #[.int .i64 0, .int .i64 0, .int .i64 0, .int .i64 0, .int .i64 0, .slice none 0 0, .slice none 0 0] 25)) = W0 := ⟨_, rfl⟩
  rw [hW0] at hp hq hs hr b1
  obtain ⟨c0, c1, c2, c3, c4, c5, c6⟩ := And.intro (cell_of hp (k := 0) rfl) (And.intro (cell_of hp (k := 1) rfl) (And.intro (cell_of hp (k := 2) rfl) (And.intro (cell_of hp (k := 3) rfl) (And.intro (cell_of hp (k := 4) rfl) (And.intro (cell_of hp (k := 5) rfl) (cell_of hp (k := 6) rfl))))))
  go_enter Tryz.func28, Tryz.ntmps28
  go_wp2_with fail
  refine (H1.out _ b1).mono ?_
  rintro e w1 ⟨rfl, hb⟩
  clear hW0 c0 c1 c2 c3 c4 c5 c6
  replace b1 := keep_below b1 hb
  replace hp := (hb.block _ (Array.getElem?_eq_some_iff.1 hp).1).trans hp
  replace hq := (hb.block _ (Array.getElem?_eq_some_iff.1 hq).1).trans hq
  replace hs := (hb.block _ (Array.getElem?_eq_some_iff.1 hs).1).trans hs
  replace hr := (hb.block _ (Array.getElem?_eq_some_iff.1 hr).1).trans hr
  clear hb
  obtain ⟨c0, c1, c2, c3, c4, c5, c6⟩ := And.intro (cell_of hq (k := 0) rfl) (And.intro (cell_of hq (k := 1) rfl) (And.intro (cell_of hq (k := 2) rfl) (And.intro (cell_of hq (k := 3) rfl) (And.intro (cell_of hq (k := 4) rfl) (And.intro (cell_of hq (k := 5) rfl) (cell_of hq (k := 6) rfl))))))
  go_wp2_with fail
  refine (H2.out _ b1).mono ?_
  rintro e w2 ⟨rfl, hb⟩
  clear c0 c1 c2 c3 c4 c5 c6
  replace b1 := keep_below b1 hb
  replace hp := (hb.block _ (Array.getElem?_eq_some_iff.1 hp).1).trans hp
  replace hq := (hb.block _ (Array.getElem?_eq_some_iff.1 hq).1).trans hq
  replace hs := (hb.block _ (Array.getElem?_eq_some_iff.1 hs).1).trans hs
  replace hr := (hb.block _ (Array.getElem?_eq_some_iff.1 hr).1).trans hr
  clear hb
  obtain ⟨z0, z1, z2, z3, z4, z5, z6⟩ := And.intro (cell_of hr (k := 0) rfl) (And.intro (cell_of hr (k := 1) rfl) (And.intro (cell_of hr (k := 2) rfl) (And.intro (cell_of hr (k := 3) rfl) (And.intro (cell_of hr (k := 4) rfl) (And.intro (cell_of hr (k := 5) rfl) (cell_of hr (k := 6) rfl))))))
  have f0 : w2.frozen? ⟨w.heap.size + 3, 0, none⟩ = false := frozen_of hr
  have f1 : w2.frozen? ⟨w.heap.size + 3, 1, none⟩ = false := frozen_of hr
  have f2 : w2.frozen? ⟨w.heap.size + 3, 2, none⟩ = false := frozen_of hr
  have f3 : w2.frozen? ⟨w.heap.size + 3, 3, none⟩ = false := frozen_of hr
  have f4 : w2.frozen? ⟨w.heap.size + 3, 4, none⟩ = false := frozen_of hr
  have f5 : w2.frozen? ⟨w.heap.size + 3, 5, none⟩ = false := frozen_of hr
  have f6 : w2.frozen? ⟨w.heap.size + 3, 6, none⟩ = false := frozen_of hr
  have hlt := (Array.getElem?_eq_some_iff.1 hr).1
  go_wp2_with fail
  obtain ⟨WF, hWF⟩ : ∃ WF, ((((((w2.setCell ⟨w.heap.size + 3, 0, none⟩ (.int .i64 0)).setCell ⟨w.heap.size + 3, 1, none⟩ (.int .i64 0)).setCell ⟨w.heap.size + 3, 2, none⟩ (.int .i64 0)).setCell ⟨w.heap.size + 3, 3, none⟩ (.int .i64 0)).setCell ⟨w.heap.size + 3, 4, none⟩ (.int .i64 0)).setCell ⟨w.heap.size + 3, 5, none⟩ (.slice none 0 0)).setCell ⟨w.heap.size + 3, 6, none⟩ (.slice none 0 0) = WF := ⟨_, rfl⟩
  rw [hWF]
  have hf : WF.heap[w.heap.size + 3]? = some (.cells #[.int .i64 0, .int .i64 0, .int .i64 0, .int .i64 0, .int .i64 0, .slice none 0 0, .slice none 0 0] 25 (0, 0)) := by
    rw [← hWF]
    exact res7 hr
  have hb4 : Below w.heap.size w WF := by
    rw [← hWF]
    exact ((((((b1.setCell (p := ⟨w.heap.size + 3, 0, none⟩) (by simp) _).setCell (p := ⟨w.heap.size + 3, 1, none⟩) (by simp) _).setCell (p := ⟨w.heap.size + 3, 2, none⟩) (by simp) _).setCell (p := ⟨w.heap.size + 3, 3, none⟩) (by simp) _).setCell (p := ⟨w.heap.size + 3, 4, none⟩) (by simp) _).setCell (p := ⟨w.heap.size + 3, 5, none⟩) (by simp) _).setCell (p := ⟨w.heap.size + 3, 6, none⟩) (by simp) _
  have hl := run_loadVar_mid (P := Tryz.prog) _ (w.heap.size + 3) 0 25 [.int .i64 0, .int .i64 0, .int .i64 0, .int .i64 0, .int .i64 0, .slice none 0 0, .slice none 0 0] _ (range_of hf) Tryz.underlying25 rfl (by kernel_rfl)
  refine bodyPost_ret (results_cell_tmp (fn := Tryz.f28) rfl _ (by rfl) hl) rfl ?_
  exact ⟨_, rfl, PcV.zero _ _, hb4⟩

set_option maxRecDepth 100000 in
set_option maxHeartbeats 16000000 in
theorem merge28_b3 (p q : PcD) (sh : Int) (b : Bool) (agp amp agq amq : Option Addr) (gcp mcp gcq mcq : Nat) (w : World)
    (H1 : Hid (∀ W, Below w.heap.size w W → Calls Tryz.prog 35 #[pcs p.id p.c p.r p.m p.s (.slice agp p.G.length gcp) (.slice amp p.M.length mcp)] W fun e w' => e = .returned (.bool true) ∧ Below W.heap.size W w'))
    (H2 : Hid (∀ W, Below w.heap.size w W → Calls Tryz.prog 35 #[pcs q.id q.c q.r q.m q.s (.slice agq q.G.length gcq) (.slice amq q.M.length mcq)] W fun e w' => e = .returned (.bool true) ∧ Below W.heap.size W w'))
    (H36 : Hid (∀ W, Calls Tryz.prog 36 #[st sh b, .int .i64 (p.G.length : Nat)] W fun e w' => e = .returned (.bool false) ∧ Below W.heap.size W w'))
    :
    Calls Tryz.prog 28 #[pcs p.id p.c p.r p.m p.s (.slice agp p.G.length gcp) (.slice amp p.M.length mcp), pcs q.id q.c q.r q.m q.s (.slice agq q.G.length gcq) (.slice amq q.M.length mcq), st sh b] w fun e w' => ∃ v, e = .returned (.tuple #[v, .int .i64 1]) ∧ PcV w' w.heap.size v zeroD ∧ Below w.heap.size w w' := by
  obtain ⟨hp, hq, hs, hr, b1⟩ := pcs3_new w (pcsObj p.id p.c p.r p.m p.s (.slice agp p.G.length gcp) (.slice amp p.M.length mcp)) (pcsObj q.id q.c q.r q.m q.s (.slice agq q.G.length gcq) (.slice amq q.M.length mcq)) sh b
  obtain ⟨W0, hW0⟩ : ∃ W0, ((((w.alloc (pcsObj p.id p.c p.r p.m p.s (.slice agp p.G.length gcp) (.slice amp p.M.length mcp))).alloc (pcsObj q.id q.c q.r q.m q.s (.slice agq q.G.length gcq) (.slice amq q.M.length mcq))).alloc (stObj sh b)).alloc (.cells #[.int .i64 0, .int .i64 0, .int .i64 0, .int .i64 0, .int .i64 0, .slice none 0 0, .slice none 0 0] 25)) = W0 := ⟨_, rfl⟩
  rw [hW0] at hp hq hs hr b1
  obtain ⟨c0, c1, c2, c3, c4, c5, c6⟩ := And.intro (cell_of hp (k := 0) rfl) (And.intro (cell_of hp (k := 1) rfl) (And.intro (cell_of hp (k := 2) rfl) (And.intro (cell_of hp (k := 3) rfl) (And.intro (cell_of hp (k := 4) rfl) (And.intro (cell_of hp (k := 5) rfl) (cell_of hp (k := 6) rfl))))))
  go_enter Tryz.func28, Tryz.ntmps28
  go_wp2_with fail
  refine (H1.out _ b1).mono ?_
  rintro e w1 ⟨rfl, hb⟩
  clear hW0 c0 c1 c2 c3 c4 c5 c6
  replace b1 := keep_below b1 hb
  replace hp := (hb.block _ (Array.getElem?_eq_some_iff.1 hp).1).trans hp
  replace hq := (hb.block _ (Array.getElem?_eq_some_iff.1 hq).1).trans hq
  replace hs := (hb.block _ (Array.getElem?_eq_some_iff.1 hs).1).trans hs
  replace hr := (hb.block _ (Array.getElem?_eq_some_iff.1 hr).1).trans hr
  clear hb
  obtain ⟨c0, c1, c2, c3, c4, c5, c6⟩ := And.intro (cell_of hq (k := 0) rfl) (And.intro (cell_of hq (k := 1) rfl) (And.intro (cell_of hq (k := 2) rfl) (And.intro (cell_of hq (k := 3) rfl) (And.intro (cell_of hq (k := 4) rfl) (And.intro (cell_of hq (k := 5) rfl) (cell_of hq (k := 6) rfl))))))
  go_wp2_with fail
  refine (H2.out _ b1).mono ?_
  rintro e w2 ⟨rfl, hb⟩
  clear c0 c1 c2 c3 c4 c5 c6
  replace b1 := keep_below b1 hb
  replace hp := (hb.block _ (Array.getElem?_eq_some_iff.1 hp).1).trans hp
  replace hq := (hb.block _ (Array.getElem?_eq_some_iff.1 hq).1).trans hq
  replace hs := (hb.block _ (Array.getElem?_eq_some_iff.1 hs).1).trans hs
  replace hr := (hb.block _ (Array.getElem?_eq_some_iff.1 hr).1).trans hr
  clear hb
  obtain ⟨c0, c1, c2, c3, c4, c5, c6⟩ := And.intro (cell_of hp (k := 0) rfl) (And.intro (cell_of hp (k := 1) rfl) (And.intro (cell_of hp (k := 2) rfl) (And.intro (cell_of hp (k := 3) rfl) (And.intro (cell_of hp (k := 4) rfl) (And.intro (cell_of hp (k := 5) rfl) (cell_of hp (k := 6) rfl))))))
  obtain ⟨s0, s1⟩ := And.intro (cell_of hs (k := 0) rfl) (cell_of hs (k := 1) rfl)
  go_wp2_with fail
  refine (H36.out _).mono ?_
  rintro e w3 ⟨rfl, hb⟩
  clear c0 c1 c2 c3 c4 c5 c6 s0 s1
  replace b1 := keep_below b1 hb
  replace hp := (hb.block _ (Array.getElem?_eq_some_iff.1 hp).1).trans hp
  replace hq := (hb.block _ (Array.getElem?_eq_some_iff.1 hq).1).trans hq
  replace hs := (hb.block _ (Array.getElem?_eq_some_iff.1 hs).1).trans hs
  replace hr := (hb.block _ (Array.getElem?_eq_some_iff.1 hr).1).trans hr
  clear hb
  obtain ⟨z0, z1, z2, z3, z4, z5, z6⟩ := And.intro (cell_of hr (k := 0) rfl) (And.intro (cell_of hr (k := 1) rfl) (And.intro (cell_of hr (k := 2) rfl) (And.intro (cell_of hr (k := 3) rfl) (And.intro (cell_of hr (k := 4) rfl) (And.intro (cell_of hr (k := 5) rfl) (cell_of hr (k := 6) rfl))))))
  have f0 : w3.frozen? ⟨w.heap.size + 3, 0, none⟩ = false := frozen_of hr
  have f1 : w3.frozen? ⟨w.heap.size + 3, 1, none⟩ = false := frozen_of hr
  have f2 : w3.frozen? ⟨w.heap.size + 3, 2, none⟩ = false := frozen_of hr
  have f3 : w3.frozen? ⟨w.heap.size + 3, 3, none⟩ = false := frozen_of hr
  have f4 : w3.frozen? ⟨w.heap.size + 3, 4, none⟩ = false := frozen_of hr
  have f5 : w3.frozen? ⟨w.heap.size + 3, 5, none⟩ = false := frozen_of hr
  have f6 : w3.frozen? ⟨w.heap.size + 3, 6, none⟩ = false := frozen_of hr
  have hlt := (Array.getElem?_eq_some_iff.1 hr).1
  go_wp2_with fail
  obtain ⟨WF, hWF⟩ : ∃ WF, ((((((w3.setCell ⟨w.heap.size + 3, 0, none⟩ (.int .i64 0)).setCell ⟨w.heap.size + 3, 1, none⟩ (.int .i64 0)).setCell ⟨w.heap.size + 3, 2, none⟩ (.int .i64 0)).setCell ⟨w.heap.size + 3, 3, none⟩ (.int .i64 0)).setCell ⟨w.heap.size + 3, 4, none⟩ (.int .i64 0)).setCell ⟨w.heap.size + 3, 5, none⟩ (.slice none 0 0)).setCell ⟨w.heap.size + 3, 6, none⟩ (.slice none 0 0) = WF := ⟨_, rfl⟩
  rw [hWF]
  have hf : WF.heap[w.heap.size + 3]? = some (.cells #[.int .i64 0, .int .i64 0, .int .i64 0, .int .i64 0, .int .i64 0, .slice none 0 0, .slice none 0 0] 25 (0, 0)) := by
    rw [← hWF]
    exact res7 hr
  have hb4 : Below w.heap.size w WF := by
    rw [← hWF]
    exact ((((((b1.setCell (p := ⟨w.heap.size + 3, 0, none⟩) (by simp) _).setCell (p := ⟨w.heap.size + 3, 1, none⟩) (by simp) _).setCell (p := ⟨w.heap.size + 3, 2, none⟩) (by simp) _).setCell (p := ⟨w.heap.size + 3, 3, none⟩) (by simp) _).setCell (p := ⟨w.heap.size + 3, 4, none⟩) (by simp) _).setCell (p := ⟨w.heap.size + 3, 5, none⟩) (by simp) _).setCell (p := ⟨w.heap.size + 3, 6, none⟩) (by simp) _
  have hl := run_loadVar_mid (P := Tryz.prog) _ (w.heap.size + 3) 0 25 [.int .i64 0, .int .i64 0, .int .i64 0, .int .i64 0, .int .i64 0, .slice none 0 0, .slice none 0 0] _ (range_of hf) Tryz.underlying25 rfl (by kernel_rfl)
  refine bodyPost_ret (results_cell_tmp (fn := Tryz.f28) rfl _ (by rfl) hl) rfl ?_
  exact ⟨_, rfl, PcV.zero _ _, hb4⟩

set_option maxRecDepth 100000 in
set_option maxHeartbeats 16000000 in
theorem merge28_b4 (p q : PcD) (sh : Int) (b : Bool) (agp amp agq amq : Option Addr) (gcp mcp gcq mcq : Nat) (w : World)
    (H1 : Hid (∀ W, Below w.heap.size w W → Calls Tryz.prog 35 #[pcs p.id p.c p.r p.m p.s (.slice agp p.G.length gcp) (.slice amp p.M.length mcp)] W fun e w' => e = .returned (.bool true) ∧ Below W.heap.size W w'))
    (H2 : Hid (∀ W, Below w.heap.size w W → Calls Tryz.prog 35 #[pcs q.id q.c q.r q.m q.s (.slice agq q.G.length gcq) (.slice amq q.M.length mcq)] W fun e w' => e = .returned (.bool true) ∧ Below W.heap.size W w'))
    (H36 : Hid (∀ W, Calls Tryz.prog 36 #[st sh b, .int .i64 (p.G.length : Nat)] W fun e w' => e = .returned (.bool true) ∧ Below W.heap.size W w'))
    (HN : ¬ (p.G.length : Int) = (q.G.length : Int))
    :
    Calls Tryz.prog 28 #[pcs p.id p.c p.r p.m p.s (.slice agp p.G.length gcp) (.slice amp p.M.length mcp), pcs q.id q.c q.r q.m q.s (.slice agq q.G.length gcq) (.slice amq q.M.length mcq), st sh b] w fun e w' => ∃ v, e = .returned (.tuple #[v, .int .i64 31]) ∧ PcV w' w.heap.size v zeroD ∧ Below w.heap.size w w' := by
  obtain ⟨hp, hq, hs, hr, b1⟩ := pcs3_new w (pcsObj p.id p.c p.r p.m p.s (.slice agp p.G.length gcp) (.slice amp p.M.length mcp)) (pcsObj q.id q.c q.r q.m q.s (.slice agq q.G.length gcq) (.slice amq q.M.length mcq)) sh b
  obtain ⟨W0, hW0⟩ : ∃ W0, ((((w.alloc (pcsObj p.id p.c p.r p.m p.s (.slice agp p.G.length gcp) (.slice amp p.M.length mcp))).alloc (pcsObj q.id q.c q.r q.m q.s (.slice agq q.G.length gcq) (.slice amq q.M.length mcq))).alloc (stObj sh b)).alloc (.cells #[.int .i64 0, .int .i64 0, .int .i64 0, .int .i64 0, .int .i64 0, .slice none 0 0, .slice none 0 0] 25)) = W0 := ⟨_, rfl⟩
  rw [hW0] at hp hq hs hr b1
  obtain ⟨c0, c1, c2, c3, c4, c5, c6⟩ := And.intro (cell_of hp (k := 0) rfl) (And.intro (cell_of hp (k := 1) rfl) (And.intro (cell_of hp (k := 2) rfl) (And.intro (cell_of hp (k := 3) rfl) (And.intro (cell_of hp (k := 4) rfl) (And.intro (cell_of hp (k := 5) rfl) (cell_of hp (k := 6) rfl))))))
  go_enter Tryz.func28, Tryz.ntmps28
  go_wp2_with fail
  refine (H1.out _ b1).mono ?_
  rintro e w1 ⟨rfl, hb⟩
  clear hW0 c0 c1 c2 c3 c4 c5 c6
  replace b1 := keep_below b1 hb
  replace hp := (hb.block _ (Array.getElem?_eq_some_iff.1 hp).1).trans hp
  replace hq := (hb.block _ (Array.getElem?_eq_some_iff.1 hq).1).trans hq
  replace hs := (hb.block _ (Array.getElem?_eq_some_iff.1 hs).1).trans hs
  replace hr := (hb.block _ (Array.getElem?_eq_some_iff.1 hr).1).trans hr
  clear hb
  obtain ⟨c0, c1, c2, c3, c4, c5, c6⟩ := And.intro (cell_of hq (k := 0) rfl) (And.intro (cell_of hq (k := 1) rfl) (And.intro (cell_of hq (k := 2) rfl) (And.intro (cell_of hq (k := 3) rfl) (And.intro (cell_of hq (k := 4) rfl) (And.intro (cell_of hq (k := 5) rfl) (cell_of hq (k := 6) rfl))))))
  go_wp2_with fail
  refine (H2.out _ b1).mono ?_
  rintro e w2 ⟨rfl, hb⟩
  clear c0 c1 c2 c3 c4 c5 c6
  replace b1 := keep_below b1 hb
  replace hp := (hb.block _ (Array.getElem?_eq_some_iff.1 hp).1).trans hp
  replace hq := (hb.block _ (Array.getElem?_eq_some_iff.1 hq).1).trans hq
  replace hs := (hb.block _ (Array.getElem?_eq_some_iff.1 hs).1).trans hs
  replace hr := (hb.block _ (Array.getElem?_eq_some_iff.1 hr).1).trans hr
  clear hb
  obtain ⟨c0, c1, c2, c3, c4, c5, c6⟩ := And.intro (cell_of hp (k := 0) rfl) (And.intro (cell_of hp (k := 1) rfl) (And.intro (cell_of hp (k := 2) rfl) (And.intro (cell_of hp (k := 3) rfl) (And.intro (cell_of hp (k := 4) rfl) (And.intro (cell_of hp (k := 5) rfl) (cell_of hp (k := 6) rfl))))))
  obtain ⟨s0, s1⟩ := And.intro (cell_of hs (k := 0) rfl) (cell_of hs (k := 1) rfl)
  go_wp2_with fail
  refine (H36.out _).mono ?_
  rintro e w3 ⟨rfl, hb⟩
  clear c0 c1 c2 c3 c4 c5 c6 s0 s1
  replace b1 := keep_below b1 hb
  replace hp := (hb.block _ (Array.getElem?_eq_some_iff.1 hp).1).trans hp
  replace hq := (hb.block _ (Array.getElem?_eq_some_iff.1 hq).1).trans hq
  replace hs := (hb.block _ (Array.getElem?_eq_some_iff.1 hs).1).trans hs
  replace hr := (hb.block _ (Array.getElem?_eq_some_iff.1 hr).1).trans hr
  clear hb
  have c5 := cell_of hp (k := 5) rfl
  have d5 := cell_of hq (k := 5) rfl
  obtain ⟨z0, z1, z2, z3, z4, z5, z6⟩ := And.intro (cell_of hr (k := 0) rfl) (And.intro (cell_of hr (k := 1) rfl) (And.intro (cell_of hr (k := 2) rfl) (And.intro (cell_of hr (k := 3) rfl) (And.intro (cell_of hr (k := 4) rfl) (And.intro (cell_of hr (k := 5) rfl) (cell_of hr (k := 6) rfl))))))
  have f0 : w3.frozen? ⟨w.heap.size + 3, 0, none⟩ = false := frozen_of hr
  have f1 : w3.frozen? ⟨w.heap.size + 3, 1, none⟩ = false := frozen_of hr
  have f2 : w3.frozen? ⟨w.heap.size + 3, 2, none⟩ = false := frozen_of hr
  have f3 : w3.frozen? ⟨w.heap.size + 3, 3, none⟩ = false := frozen_of hr
  have f4 : w3.frozen? ⟨w.heap.size + 3, 4, none⟩ = false := frozen_of hr
  have f5 : w3.frozen? ⟨w.heap.size + 3, 5, none⟩ = false := frozen_of hr
  have f6 : w3.frozen? ⟨w.heap.size + 3, 6, none⟩ = false := frozen_of hr
  have hlt := (Array.getElem?_eq_some_iff.1 hr).1
  go_wp2_with fail
  obtain ⟨WF, hWF⟩ : ∃ WF, ((((((w3.setCell ⟨w.heap.size + 3, 0, none⟩ (.int .i64 0)).setCell ⟨w.heap.size + 3, 1, none⟩ (.int .i64 0)).setCell ⟨w.heap.size + 3, 2, none⟩ (.int .i64 0)).setCell ⟨w.heap.size + 3, 3, none⟩ (.int .i64 0)).setCell ⟨w.heap.size + 3, 4, none⟩ (.int .i64 0)).setCell ⟨w.heap.size + 3, 5, none⟩ (.slice none 0 0)).setCell ⟨w.heap.size + 3, 6, none⟩ (.slice none 0 0) = WF := ⟨_, rfl⟩
  rw [hWF]
  have hf : WF.heap[w.heap.size + 3]? = some (.cells #[.int .i64 0, .int .i64 0, .int .i64 0, .int .i64 0, .int .i64 0, .slice none 0 0, .slice none 0 0] 25 (0, 0)) := by
    rw [← hWF]
    exact res7 hr
  have hb4 : Below w.heap.size w WF := by
    rw [← hWF]
    exact ((((((b1.setCell (p := ⟨w.heap.size + 3, 0, none⟩) (by simp) _).setCell (p := ⟨w.heap.size + 3, 1, none⟩) (by simp) _).setCell (p := ⟨w.heap.size + 3, 2, none⟩) (by simp) _).setCell (p := ⟨w.heap.size + 3, 3, none⟩) (by simp) _).setCell (p := ⟨w.heap.size + 3, 4, none⟩) (by simp) _).setCell (p := ⟨w.heap.size + 3, 5, none⟩) (by simp) _).setCell (p := ⟨w.heap.size + 3, 6, none⟩) (by simp) _
  have hl := run_loadVar_mid (P := Tryz.prog) _ (w.heap.size + 3) 0 25 [.int .i64 0, .int .i64 0, .int .i64 0, .int .i64 0, .int .i64 0, .slice none 0 0, .slice none 0 0] _ (range_of hf) Tryz.underlying25 rfl (by kernel_rfl)
  refine bodyPost_ret (results_cell_tmp (fn := Tryz.f28) rfl _ (by rfl) hl) rfl ?_
  exact ⟨_, rfl, PcV.zero _ _, hb4⟩

set_option maxRecDepth 100000 in
set_option maxHeartbeats 16000000 in
theorem merge28_b5 (p q : PcD) (y : PcD) (sh : Int) (b : Bool) (agp amp agq amq : Option Addr) (gcp mcp gcq mcq : Nat) (w : World)
    (H1 : Hid (∀ W, Below w.heap.size w W → Calls Tryz.prog 35 #[pcs p.id p.c p.r p.m p.s (.slice agp p.G.length gcp) (.slice amp p.M.length mcp)] W fun e w' => e = .returned (.bool true) ∧ Below W.heap.size W w'))
    (H2 : Hid (∀ W, Below w.heap.size w W → Calls Tryz.prog 35 #[pcs q.id q.c q.r q.m q.s (.slice agq q.G.length gcq) (.slice amq q.M.length mcq)] W fun e w' => e = .returned (.bool true) ∧ Below W.heap.size W w'))
    (H36 : Hid (∀ W, Calls Tryz.prog 36 #[st sh b, .int .i64 (p.G.length : Nat)] W fun e w' => e = .returned (.bool true) ∧ Below W.heap.size W w'))
    (HL : Hid (q.G.length = p.G.length))
    (H56 : Hid (∀ W, Below w.heap.size w W → Calls Tryz.prog 56 #[pcs p.id p.c p.r p.m p.s (.slice agp p.G.length gcp) (.slice amp p.M.length mcp), pcs q.id q.c q.r q.m q.s (.slice agq q.G.length gcq) (.slice amq q.M.length mcq), st sh b] W fun e w' => ∃ v, e = .returned (.tuple #[v, .bool false]) ∧ PcV w' W.heap.size v y ∧ Below W.heap.size W w'))
    :
    Calls Tryz.prog 28 #[pcs p.id p.c p.r p.m p.s (.slice agp p.G.length gcp) (.slice amp p.M.length mcp), pcs q.id q.c q.r q.m q.s (.slice agq q.G.length gcq) (.slice amq q.M.length mcq), st sh b] w fun e w' => ∃ v, e = .returned (.tuple #[v, .int .i64 31]) ∧ PcV w' w.heap.size v zeroD ∧ Below w.heap.size w w' := by
  obtain ⟨hp, hq, hs, hr, b1⟩ := pcs3_new w (pcsObj p.id p.c p.r p.m p.s (.slice agp p.G.length gcp) (.slice amp p.M.length mcp)) (pcsObj q.id q.c q.r q.m q.s (.slice agq q.G.length gcq) (.slice amq q.M.length mcq)) sh b
  obtain ⟨W0, hW0⟩ : ∃ W0, ((((w.alloc (pcsObj p.id p.c p.r p.m p.s (.slice agp p.G.length gcp) (.slice amp p.M.length mcp))).alloc (pcsObj q.id q.c q.r q.m q.s (.slice agq q.G.length gcq) (.slice amq q.M.length mcq))).alloc (stObj sh b)).alloc (.cells #[.int .i64 0, .int .i64 0, .int .i64 0, .int .i64 0, .int .i64 0, .slice none 0 0, .slice none 0 0] 25)) = W0 := ⟨_, rfl⟩
  rw [hW0] at hp hq hs hr b1
  obtain ⟨c0, c1, c2, c3, c4, c5, c6⟩ := And.intro (cell_of hp (k := 0) rfl) (And.intro (cell_of hp (k := 1) rfl) (And.intro (cell_of hp (k := 2) rfl) (And.intro (cell_of hp (k := 3) rfl) (And.intro (cell_of hp (k := 4) rfl) (And.intro (cell_of hp (k := 5) rfl) (cell_of hp (k := 6) rfl))))))
  go_enter Tryz.func28, Tryz.ntmps28
  go_wp2_with fail
  refine (H1.out _ b1).mono ?_
  rintro e w1 ⟨rfl, hb⟩
  clear hW0 c0 c1 c2 c3 c4 c5 c6
  replace b1 := keep_below b1 hb
  replace hp := (hb.block _ (Array.getElem?_eq_some_iff.1 hp).1).trans hp
  replace hq := (hb.block _ (Array.getElem?_eq_some_iff.1 hq).1).trans hq
  replace hs := (hb.block _ (Array.getElem?_eq_some_iff.1 hs).1).trans hs
  replace hr := (hb.block _ (Array.getElem?_eq_some_iff.1 hr).1).trans hr
  clear hb
  obtain ⟨c0, c1, c2, c3, c4, c5, c6⟩ := And.intro (cell_of hq (k := 0) rfl) (And.intro (cell_of hq (k := 1) rfl) (And.intro (cell_of hq (k := 2) rfl) (And.intro (cell_of hq (k := 3) rfl) (And.intro (cell_of hq (k := 4) rfl) (And.intro (cell_of hq (k := 5) rfl) (cell_of hq (k := 6) rfl))))))
  go_wp2_with fail
  refine (H2.out _ b1).mono ?_
  rintro e w2 ⟨rfl, hb⟩
  clear c0 c1 c2 c3 c4 c5 c6
  replace b1 := keep_below b1 hb
  replace hp := (hb.block _ (Array.getElem?_eq_some_iff.1 hp).1).trans hp
  replace hq := (hb.block _ (Array.getElem?_eq_some_iff.1 hq).1).trans hq
  replace hs := (hb.block _ (Array.getElem?_eq_some_iff.1 hs).1).trans hs
  replace hr := (hb.block _ (Array.getElem?_eq_some_iff.1 hr).1).trans hr
  clear hb
  obtain ⟨c0, c1, c2, c3, c4, c5, c6⟩ := And.intro (cell_of hp (k := 0) rfl) (And.intro (cell_of hp (k := 1) rfl) (And.intro (cell_of hp (k := 2) rfl) (And.intro (cell_of hp (k := 3) rfl) (And.intro (cell_of hp (k := 4) rfl) (And.intro (cell_of hp (k := 5) rfl) (cell_of hp (k := 6) rfl))))))
  obtain ⟨s0, s1⟩ := And.intro (cell_of hs (k := 0) rfl) (cell_of hs (k := 1) rfl)
  go_wp2_with fail
  refine (H36.out _).mono ?_
  rintro e w3 ⟨rfl, hb⟩
  clear c0 c1 c2 c3 c4 c5 c6 s0 s1
  replace b1 := keep_below b1 hb
  replace hp := (hb.block _ (Array.getElem?_eq_some_iff.1 hp).1).trans hp
  replace hq := (hb.block _ (Array.getElem?_eq_some_iff.1 hq).1).trans hq
  replace hs := (hb.block _ (Array.getElem?_eq_some_iff.1 hs).1).trans hs
  replace hr := (hb.block _ (Array.getElem?_eq_some_iff.1 hr).1).trans hr
  clear hb
  have hl := HL.out
  rw [hl] at hq H56
  obtain ⟨c0, c1, c2, c3, c4, c5, c6⟩ := And.intro (cell_of hp (k := 0) rfl) (And.intro (cell_of hp (k := 1) rfl) (And.intro (cell_of hp (k := 2) rfl) (And.intro (cell_of hp (k := 3) rfl) (And.intro (cell_of hp (k := 4) rfl) (And.intro (cell_of hp (k := 5) rfl) (cell_of hp (k := 6) rfl))))))
  obtain ⟨s0, s1⟩ := And.intro (cell_of hs (k := 0) rfl) (cell_of hs (k := 1) rfl)
  obtain ⟨d0, d1, d2, d3, d4, d5, d6⟩ := And.intro (cell_of hq (k := 0) rfl) (And.intro (cell_of hq (k := 1) rfl) (And.intro (cell_of hq (k := 2) rfl) (And.intro (cell_of hq (k := 3) rfl) (And.intro (cell_of hq (k := 4) rfl) (And.intro (cell_of hq (k := 5) rfl) (cell_of hq (k := 6) rfl))))))
  go_wp2_with fail
  refine (H56.out _ b1).mono ?_
  rintro e w5 ⟨v5, rfl, hv5, hb⟩
  clear c0 c1 c2 c3 c4 c5 c6 s0 s1 d0 d1 d2 d3 d4 d5 d6
  replace b1 := keep_below b1 hb
  replace hp := (hb.block _ (Array.getElem?_eq_some_iff.1 hp).1).trans hp
  replace hq := (hb.block _ (Array.getElem?_eq_some_iff.1 hq).1).trans hq
  replace hs := (hb.block _ (Array.getElem?_eq_some_iff.1 hs).1).trans hs
  replace hr := (hb.block _ (Array.getElem?_eq_some_iff.1 hr).1).trans hr
  clear hb
  obtain ⟨ag8, gc8, am8, mc8, rfl, hv5⟩ := hv5.pcs
  have hb : Below w5.heap.size w5 (w5.alloc (.cells #[.int .i64 y.id, .int .i64 y.c, .int .i64 y.r, .int .i64 y.m, .int .i64 y.s, .slice ag8 y.G.length gc8, .slice am8 y.M.length mc8] 25)) := (Below.refl _ _).alloc (Nat.le_refl _) _
  have h8 := alloc_heap_new w5 (.cells #[.int .i64 y.id, .int .i64 y.c, .int .i64 y.r, .int .i64 y.m, .int .i64 y.s, .slice ag8 y.G.length gc8, .slice am8 y.M.length mc8] 25)
  have l5 := Lib.hid b1.size
  replace hv5 := hv5.keep hb
  have l3 := Lib.hid (Array.getElem?_eq_some_iff.1 hr).1
  replace b1 := keep_below b1 hb
  replace hp := (hb.block _ (Array.getElem?_eq_some_iff.1 hp).1).trans hp
  replace hq := (hb.block _ (Array.getElem?_eq_some_iff.1 hq).1).trans hq
  replace hs := (hb.block _ (Array.getElem?_eq_some_iff.1 hs).1).trans hs
  replace hr := (hb.block _ (Array.getElem?_eq_some_iff.1 hr).1).trans hr
  clear hb
  obtain ⟨z0, z1, z2, z3, z4, z5, z6⟩ := And.intro (cell_of hr (k := 0) rfl) (And.intro (cell_of hr (k := 1) rfl) (And.intro (cell_of hr (k := 2) rfl) (And.intro (cell_of hr (k := 3) rfl) (And.intro (cell_of hr (k := 4) rfl) (And.intro (cell_of hr (k := 5) rfl) (cell_of hr (k := 6) rfl))))))
  have f0 : (w5.alloc (.cells #[.int .i64 y.id, .int .i64 y.c, .int .i64 y.r, .int .i64 y.m, .int .i64 y.s, .slice ag8 y.G.length gc8, .slice am8 y.M.length mc8] 25)).frozen? ⟨w.heap.size + 3, 0, none⟩ = false := frozen_of hr
  have f1 : (w5.alloc (.cells #[.int .i64 y.id, .int .i64 y.c, .int .i64 y.r, .int .i64 y.m, .int .i64 y.s, .slice ag8 y.G.length gc8, .slice am8 y.M.length mc8] 25)).frozen? ⟨w.heap.size + 3, 1, none⟩ = false := frozen_of hr
  have f2 : (w5.alloc (.cells #[.int .i64 y.id, .int .i64 y.c, .int .i64 y.r, .int .i64 y.m, .int .i64 y.s, .slice ag8 y.G.length gc8, .slice am8 y.M.length mc8] 25)).frozen? ⟨w.heap.size + 3, 2, none⟩ = false := frozen_of hr
  have f3 : (w5.alloc (.cells #[.int .i64 y.id, .int .i64 y.c, .int .i64 y.r, .int .i64 y.m, .int .i64 y.s, .slice ag8 y.G.length gc8, .slice am8 y.M.length mc8] 25)).frozen? ⟨w.heap.size + 3, 3, none⟩ = false := frozen_of hr
  have f4 : (w5.alloc (.cells #[.int .i64 y.id, .int .i64 y.c, .int .i64 y.r, .int .i64 y.m, .int .i64 y.s, .slice ag8 y.G.length gc8, .slice am8 y.M.length mc8] 25)).frozen? ⟨w.heap.size + 3, 4, none⟩ = false := frozen_of hr
  have f5 : (w5.alloc (.cells #[.int .i64 y.id, .int .i64 y.c, .int .i64 y.r, .int .i64 y.m, .int .i64 y.s, .slice ag8 y.G.length gc8, .slice am8 y.M.length mc8] 25)).frozen? ⟨w.heap.size + 3, 5, none⟩ = false := frozen_of hr
  have f6 : (w5.alloc (.cells #[.int .i64 y.id, .int .i64 y.c, .int .i64 y.r, .int .i64 y.m, .int .i64 y.s, .slice ag8 y.G.length gc8, .slice am8 y.M.length mc8] 25)).frozen? ⟨w.heap.size + 3, 6, none⟩ = false := frozen_of hr
  have hlt := (Array.getElem?_eq_some_iff.1 hr).1
  go_wp2_with fail
  obtain ⟨WF, hWF⟩ : ∃ WF, (((((((w5.alloc (.cells #[.int .i64 y.id, .int .i64 y.c, .int .i64 y.r, .int .i64 y.m, .int .i64 y.s, .slice ag8 y.G.length gc8, .slice am8 y.M.length mc8] 25)).setCell ⟨w.heap.size + 3, 0, none⟩ (.int .i64 0)).setCell ⟨w.heap.size + 3, 1, none⟩ (.int .i64 0)).setCell ⟨w.heap.size + 3, 2, none⟩ (.int .i64 0)).setCell ⟨w.heap.size + 3, 3, none⟩ (.int .i64 0)).setCell ⟨w.heap.size + 3, 4, none⟩ (.int .i64 0)).setCell ⟨w.heap.size + 3, 5, none⟩ (.slice none 0 0)).setCell ⟨w.heap.size + 3, 6, none⟩ (.slice none 0 0) = WF := ⟨_, rfl⟩
  rw [hWF]
  have hf : WF.heap[w.heap.size + 3]? = some (.cells #[.int .i64 0, .int .i64 0, .int .i64 0, .int .i64 0, .int .i64 0, .slice none 0 0, .slice none 0 0] 25 (0, 0)) := by
    rw [← hWF]
    exact res7 hr
  have hb4 : Below w.heap.size w WF := by
    rw [← hWF]
    exact ((((((b1.setCell (p := ⟨w.heap.size + 3, 0, none⟩) (by simp) _).setCell (p := ⟨w.heap.size + 3, 1, none⟩) (by simp) _).setCell (p := ⟨w.heap.size + 3, 2, none⟩) (by simp) _).setCell (p := ⟨w.heap.size + 3, 3, none⟩) (by simp) _).setCell (p := ⟨w.heap.size + 3, 4, none⟩) (by simp) _).setCell (p := ⟨w.heap.size + 3, 5, none⟩) (by simp) _).setCell (p := ⟨w.heap.size + 3, 6, none⟩) (by simp) _
  have hl := run_loadVar_mid (P := Tryz.prog) _ (w.heap.size + 3) 0 25 [.int .i64 0, .int .i64 0, .int .i64 0, .int .i64 0, .int .i64 0, .slice none 0 0, .slice none 0 0] _ (range_of hf) Tryz.underlying25 rfl (by kernel_rfl)
  refine bodyPost_ret (results_cell_tmp (fn := Tryz.f28) rfl _ (by rfl) hl) rfl ?_
  exact ⟨_, rfl, PcV.zero _ _, hb4⟩

set_option maxRecDepth 100000 in
set_option maxHeartbeats 16000000 in
theorem merge28_good (p q : PcD) (y : PcD) (sh : Int) (b : Bool) (agp amp agq amq : Option Addr) (gcp mcp gcq mcq : Nat) (w : World)
    (H1 : Hid (∀ W, Below w.heap.size w W → Calls Tryz.prog 35 #[pcs p.id p.c p.r p.m p.s (.slice agp p.G.length gcp) (.slice amp p.M.length mcp)] W fun e w' => e = .returned (.bool true) ∧ Below W.heap.size W w'))
    (H2 : Hid (∀ W, Below w.heap.size w W → Calls Tryz.prog 35 #[pcs q.id q.c q.r q.m q.s (.slice agq q.G.length gcq) (.slice amq q.M.length mcq)] W fun e w' => e = .returned (.bool true) ∧ Below W.heap.size W w'))
    (H36 : Hid (∀ W, Calls Tryz.prog 36 #[st sh b, .int .i64 (p.G.length : Nat)] W fun e w' => e = .returned (.bool true) ∧ Below W.heap.size W w'))
    (HL : Hid (q.G.length = p.G.length))
    (H56 : Hid (∀ W, Below w.heap.size w W → Calls Tryz.prog 56 #[pcs p.id p.c p.r p.m p.s (.slice agp p.G.length gcp) (.slice amp p.M.length mcp), pcs q.id q.c q.r q.m q.s (.slice agq q.G.length gcq) (.slice amq q.M.length mcq), st sh b] W fun e w' => ∃ v, e = .returned (.tuple #[v, .bool true]) ∧ PcV w' W.heap.size v y ∧ Below W.heap.size W w'))
    :
    Calls Tryz.prog 28 #[pcs p.id p.c p.r p.m p.s (.slice agp p.G.length gcp) (.slice amp p.M.length mcp), pcs q.id q.c q.r q.m q.s (.slice agq q.G.length gcq) (.slice amq q.M.length mcq), st sh b] w fun e w' => ∃ v, e = .returned (.tuple #[v, .int .i64 0]) ∧ PcV w' w.heap.size v y ∧ Below w.heap.size w w' := by
  obtain ⟨hp, hq, hs, hr, b1⟩ := pcs3_new w (pcsObj p.id p.c p.r p.m p.s (.slice agp p.G.length gcp) (.slice amp p.M.length mcp)) (pcsObj q.id q.c q.r q.m q.s (.slice agq q.G.length gcq) (.slice amq q.M.length mcq)) sh b
  obtain ⟨W0, hW0⟩ : ∃ W0, ((((w.alloc (pcsObj p.id p.c p.r p.m p.s (.slice agp p.G.length gcp) (.slice amp p.M.length mcp))).alloc (pcsObj q.id q.c q.r q.m q.s (.slice agq q.G.length gcq) (.slice amq q.M.length mcq))).alloc (stObj sh b)).alloc (.cells #[.int .i64 0, .int .i64 0, .int .i64 0, .int .i64 0, .int .i64 0, .slice none 0 0, .slice none 0 0] 25)) = W0 := ⟨_, rfl⟩
  rw [hW0] at hp hq hs hr b1
  obtain ⟨c0, c1, c2, c3, c4, c5, c6⟩ := And.intro (cell_of hp (k := 0) rfl) (And.intro (cell_of hp (k := 1) rfl) (And.intro (cell_of hp (k := 2) rfl) (And.intro (cell_of hp (k := 3) rfl) (And.intro (cell_of hp (k := 4) rfl) (And.intro (cell_of hp (k := 5) rfl) (cell_of hp (k := 6) rfl))))))
  go_enter Tryz.func28, Tryz.ntmps28
  go_wp2_with fail
  refine (H1.out _ b1).mono ?_
  rintro e w1 ⟨rfl, hb⟩
  clear hW0 c0 c1 c2 c3 c4 c5 c6
  replace b1 := keep_below b1 hb
  replace hp := (hb.block _ (Array.getElem?_eq_some_iff.1 hp).1).trans hp
  replace hq := (hb.block _ (Array.getElem?_eq_some_iff.1 hq).1).trans hq
  replace hs := (hb.block _ (Array.getElem?_eq_some_iff.1 hs).1).trans hs
  replace hr := (hb.block _ (Array.getElem?_eq_some_iff.1 hr).1).trans hr
  clear hb
  obtain ⟨c0, c1, c2, c3, c4, c5, c6⟩ := And.intro (cell_of hq (k := 0) rfl) (And.intro (cell_of hq (k := 1) rfl) (And.intro (cell_of hq (k := 2) rfl) (And.intro (cell_of hq (k := 3) rfl) (And.intro (cell_of hq (k := 4) rfl) (And.intro (cell_of hq (k := 5) rfl) (cell_of hq (k := 6) rfl))))))
  go_wp2_with fail
  refine (H2.out _ b1).mono ?_
  rintro e w2 ⟨rfl, hb⟩
  clear c0 c1 c2 c3 c4 c5 c6
  replace b1 := keep_below b1 hb
  replace hp := (hb.block _ (Array.getElem?_eq_some_iff.1 hp).1).trans hp
  replace hq := (hb.block _ (Array.getElem?_eq_some_iff.1 hq).1).trans hq
  replace hs := (hb.block _ (Array.getElem?_eq_some_iff.1 hs).1).trans hs
  replace hr := (hb.block _ (Array.getElem?_eq_some_iff.1 hr).1).trans hr
  clear hb
  obtain ⟨c0, c1, c2, c3, c4, c5, c6⟩ := And.intro (cell_of hp (k := 0) rfl) (And.intro (cell_of hp (k := 1) rfl) (And.intro (cell_of hp (k := 2) rfl) (And.intro (cell_of hp (k := 3) rfl) (And.intro (cell_of hp (k := 4) rfl) (And.intro (cell_of hp (k := 5) rfl) (cell_of hp (k := 6) rfl))))))
  obtain ⟨s0, s1⟩ := And.intro (cell_of hs (k := 0) rfl) (cell_of hs (k := 1) rfl)
  go_wp2_with fail
  refine (H36.out _).mono ?_
  rintro e w3 ⟨rfl, hb⟩
  clear c0 c1 c2 c3 c4 c5 c6 s0 s1
  replace b1 := keep_below b1 hb
  replace hp := (hb.block _ (Array.getElem?_eq_some_iff.1 hp).1).trans hp
  replace hq := (hb.block _ (Array.getElem?_eq_some_iff.1 hq).1).trans hq
  replace hs := (hb.block _ (Array.getElem?_eq_some_iff.1 hs).1).trans hs
  replace hr := (hb.block _ (Array.getElem?_eq_some_iff.1 hr).1).trans hr
  clear hb
  have hl := HL.out
  rw [hl] at hq H56
  obtain ⟨c0, c1, c2, c3, c4, c5, c6⟩ := And.intro (cell_of hp (k := 0) rfl) (And.intro (cell_of hp (k := 1) rfl) (And.intro (cell_of hp (k := 2) rfl) (And.intro (cell_of hp (k := 3) rfl) (And.intro (cell_of hp (k := 4) rfl) (And.intro (cell_of hp (k := 5) rfl) (cell_of hp (k := 6) rfl))))))
  obtain ⟨s0, s1⟩ := And.intro (cell_of hs (k := 0) rfl) (cell_of hs (k := 1) rfl)
  obtain ⟨d0, d1, d2, d3, d4, d5, d6⟩ := And.intro (cell_of hq (k := 0) rfl) (And.intro (cell_of hq (k := 1) rfl) (And.intro (cell_of hq (k := 2) rfl) (And.intro (cell_of hq (k := 3) rfl) (And.intro (cell_of hq (k := 4) rfl) (And.intro (cell_of hq (k := 5) rfl) (cell_of hq (k := 6) rfl))))))
  go_wp2_with fail
  have lw := Lib.hid (Array.getElem?_eq_some_iff.1 hr).1
  refine (H56.out _ b1).mono ?_
  rintro e w5 ⟨v5, rfl, hv5, hb⟩
  clear c0 c1 c2 c3 c4 c5 c6 s0 s1 d0 d1 d2 d3 d4 d5 d6
  replace b1 := keep_below b1 hb
  replace hp := (hb.block _ (Array.getElem?_eq_some_iff.1 hp).1).trans hp
  replace hq := (hb.block _ (Array.getElem?_eq_some_iff.1 hq).1).trans hq
  replace hs := (hb.block _ (Array.getElem?_eq_some_iff.1 hs).1).trans hs
  replace hr := (hb.block _ (Array.getElem?_eq_some_iff.1 hr).1).trans hr
  clear hb
  obtain ⟨ag8, gc8, am8, mc8, rfl, hv5⟩ := hv5.pcs
  have hb : Below w5.heap.size w5 (w5.alloc (.cells #[.int .i64 y.id, .int .i64 y.c, .int .i64 y.r, .int .i64 y.m, .int .i64 y.s, .slice ag8 y.G.length gc8, .slice am8 y.M.length mc8] 25)) := (Below.refl _ _).alloc (Nat.le_refl _) _
  have h8 := alloc_heap_new w5 (.cells #[.int .i64 y.id, .int .i64 y.c, .int .i64 y.r, .int .i64 y.m, .int .i64 y.s, .slice ag8 y.G.length gc8, .slice am8 y.M.length mc8] 25)
  have l5 := Lib.hid b1.size
  replace hv5 := hv5.keep hb
  have l3 := Lib.hid (Array.getElem?_eq_some_iff.1 hr).1
  replace b1 := keep_below b1 hb
  replace hp := (hb.block _ (Array.getElem?_eq_some_iff.1 hp).1).trans hp
  replace hq := (hb.block _ (Array.getElem?_eq_some_iff.1 hq).1).trans hq
  replace hs := (hb.block _ (Array.getElem?_eq_some_iff.1 hs).1).trans hs
  replace hr := (hb.block _ (Array.getElem?_eq_some_iff.1 hr).1).trans hr
  clear hb
  obtain ⟨z0, z1, z2, z3, z4, z5, z6⟩ := And.intro (cell_of hr (k := 0) rfl) (And.intro (cell_of hr (k := 1) rfl) (And.intro (cell_of hr (k := 2) rfl) (And.intro (cell_of hr (k := 3) rfl) (And.intro (cell_of hr (k := 4) rfl) (And.intro (cell_of hr (k := 5) rfl) (cell_of hr (k := 6) rfl))))))
  obtain ⟨e0, e1, e2, e3, e4, e5, e6⟩ := And.intro (cell_of h8 (k := 0) rfl) (And.intro (cell_of h8 (k := 1) rfl) (And.intro (cell_of h8 (k := 2) rfl) (And.intro (cell_of h8 (k := 3) rfl) (And.intro (cell_of h8 (k := 4) rfl) (And.intro (cell_of h8 (k := 5) rfl) (cell_of h8 (k := 6) rfl))))))
  have f0 : (w5.alloc (.cells #[.int .i64 y.id, .int .i64 y.c, .int .i64 y.r, .int .i64 y.m, .int .i64 y.s, .slice ag8 y.G.length gc8, .slice am8 y.M.length mc8] 25)).frozen? ⟨w.heap.size + 3, 0, none⟩ = false := frozen_of hr
  have f1 : (w5.alloc (.cells #[.int .i64 y.id, .int .i64 y.c, .int .i64 y.r, .int .i64 y.m, .int .i64 y.s, .slice ag8 y.G.length gc8, .slice am8 y.M.length mc8] 25)).frozen? ⟨w.heap.size + 3, 1, none⟩ = false := frozen_of hr
  have f2 : (w5.alloc (.cells #[.int .i64 y.id, .int .i64 y.c, .int .i64 y.r, .int .i64 y.m, .int .i64 y.s, .slice ag8 y.G.length gc8, .slice am8 y.M.length mc8] 25)).frozen? ⟨w.heap.size + 3, 2, none⟩ = false := frozen_of hr
  have f3 : (w5.alloc (.cells #[.int .i64 y.id, .int .i64 y.c, .int .i64 y.r, .int .i64 y.m, .int .i64 y.s, .slice ag8 y.G.length gc8, .slice am8 y.M.length mc8] 25)).frozen? ⟨w.heap.size + 3, 3, none⟩ = false := frozen_of hr
  have f4 : (w5.alloc (.cells #[.int .i64 y.id, .int .i64 y.c, .int .i64 y.r, .int .i64 y.m, .int .i64 y.s, .slice ag8 y.G.length gc8, .slice am8 y.M.length mc8] 25)).frozen? ⟨w.heap.size + 3, 4, none⟩ = false := frozen_of hr
  have f5 : (w5.alloc (.cells #[.int .i64 y.id, .int .i64 y.c, .int .i64 y.r, .int .i64 y.m, .int .i64 y.s, .slice ag8 y.G.length gc8, .slice am8 y.M.length mc8] 25)).frozen? ⟨w.heap.size + 3, 5, none⟩ = false := frozen_of hr
  have f6 : (w5.alloc (.cells #[.int .i64 y.id, .int .i64 y.c, .int .i64 y.r, .int .i64 y.m, .int .i64 y.s, .slice ag8 y.G.length gc8, .slice am8 y.M.length mc8] 25)).frozen? ⟨w.heap.size + 3, 6, none⟩ = false := frozen_of hr
  have hlt := (Array.getElem?_eq_some_iff.1 hr).1
  go_wp2_with fail
  obtain ⟨WF, hWF⟩ : ∃ WF, (((((((w5.alloc (.cells #[.int .i64 y.id, .int .i64 y.c, .int .i64 y.r, .int .i64 y.m, .int .i64 y.s, .slice ag8 y.G.length gc8, .slice am8 y.M.length mc8] 25)).setCell ⟨w.heap.size + 3, 0, none⟩ (.int .i64 y.id)).setCell ⟨w.heap.size + 3, 1, none⟩ (.int .i64 y.c)).setCell ⟨w.heap.size + 3, 2, none⟩ (.int .i64 y.r)).setCell ⟨w.heap.size + 3, 3, none⟩ (.int .i64 y.m)).setCell ⟨w.heap.size + 3, 4, none⟩ (.int .i64 y.s)).setCell ⟨w.heap.size + 3, 5, none⟩ (.slice ag8 y.G.length gc8)).setCell ⟨w.heap.size + 3, 6, none⟩ (.slice am8 y.M.length mc8) = WF := ⟨_, rfl⟩
  rw [hWF]
  have hf : WF.heap[w.heap.size + 3]? = some (.cells #[.int .i64 y.id, .int .i64 y.c, .int .i64 y.r, .int .i64 y.m, .int .i64 y.s, .slice ag8 y.G.length gc8, .slice am8 y.M.length mc8] 25 (0, 0)) := by
    rw [← hWF]
    exact res7 hr
  have hb4 : Below w.heap.size w WF := by
    rw [← hWF]
    exact ((((((b1.setCell (p := ⟨w.heap.size + 3, 0, none⟩) (by simp) _).setCell (p := ⟨w.heap.size + 3, 1, none⟩) (by simp) _).setCell (p := ⟨w.heap.size + 3, 2, none⟩) (by simp) _).setCell (p := ⟨w.heap.size + 3, 3, none⟩) (by simp) _).setCell (p := ⟨w.heap.size + 3, 4, none⟩) (by simp) _).setCell (p := ⟨w.heap.size + 3, 5, none⟩) (by simp) _).setCell (p := ⟨w.heap.size + 3, 6, none⟩) (by simp) _
  have hv6 : PcV WF w.heap.size (pcs y.id y.c y.r y.m y.s (.slice ag8 y.G.length gc8) (.slice am8 y.M.length mc8)) y := by
    rw [← hWF]
    exact (((((((hv5.set (by have := lw.out; omega)).set (by have := lw.out; omega)).set (by have := lw.out; omega)).set (by have := lw.out; omega)).set (by have := lw.out; omega)).set (by have := lw.out; omega)).set (by have := lw.out; omega)).mono (by have := lw.out; omega)
  have hl2 := run_loadVar_mid (P := Tryz.prog) _ (w.heap.size + 3) 0 25 [.int .i64 y.id, .int .i64 y.c, .int .i64 y.r, .int .i64 y.m, .int .i64 y.s, .slice ag8 y.G.length gc8, .slice am8 y.M.length mc8] _ (range_of hf) Tryz.underlying25 rfl (by kernel_rfl)
  refine bodyPost_ret (results_cell_tmp (fn := Tryz.f28) rfl _ (by rfl) hl2) rfl ?_
  exact ⟨_, rfl, hv6, hb4⟩

end Go.Proofs.YtcfapbccegijnaaGreat

/- Merge of the reference, put together. -/
namespace Go.Proofs.YtcfapbccegijnaaGreat
open Go Go.RowKit Go.Proofs Go.Abs

theorem alk_short {y q : PcD} (h : y.G.length ≠ q.G.length) : alk y q = false := by
  cases ha : alk y q with
  | false => rfl
  | true => exact absurd (alk_len ha) h

theorem merge28_any (p q : PcD) (sh : Int) (b : Bool) (vg vm vg' vm' : Value) (w : World) (hG : SlG w vg p.G) (hM : SlM w vm p.M) (hG' : SlG w vg' q.G) (hM' : SlM w vm' q.M) :
    Calls Tryz.prog 28 #[pcs p.id p.c p.r p.m p.s vg vm, pcs q.id q.c q.r q.m q.s vg' vm', st sh b] w fun e w' => ∃ v, e = .returned (.tuple #[v, .int .i64 (mgE p q sh b)]) ∧ PcV w' w.heap.size v (mgV p q sh b) ∧ Below w.heap.size w w' := by
  obtain ⟨agp, gcp, rfl, -⟩ := _root_.id hG
  obtain ⟨amp, mcp, rfl, -⟩ := _root_.id hM
  obtain ⟨agq, gcq, rfl, -⟩ := _root_.id hG'
  obtain ⟨amq, mcq, rfl, -⟩ := _root_.id hM'
  have K1 := fun W (hW : Below w.heap.size w W) => refValidPiece_any p.id p.c p.r p.m p.s _ _ p.G p.M W (hG.keep hW) (hM.keep hW)
  have K2 := fun W (hW : Below w.heap.size w W) => refValidPiece_any q.id q.c q.r q.m q.s _ _ q.G q.M W (hG'.keep hW) (hM'.keep hW)
  have K3 := fun W => refSetting_any sh p.G.length b W
  have e1 : vP p.id p.c p.r p.m p.s p.G p.M = p.ok := rfl
  have e2 : vP q.id q.c q.r q.m q.s q.G q.M = q.ok := rfl
  rw [e1] at K1
  rw [e2] at K2
  cases hp : p.ok
  · rw [hp] at K1
    have eE : mgE p q sh b = 30 := by unfold mgE; rw [if_neg (by rw [hp]; simp)]
    have eV : mgV p q sh b = zeroD := by unfold mgV; rw [if_neg (by rw [hp]; simp)]
    rw [eE, eV]
    exact merge28_b1 p q sh b agp amp agq amq gcp mcp gcq mcq w (Lib.hid K1)
  cases hq : q.ok
  · rw [hp] at K1
    rw [hq] at K2
    have eE : mgE p q sh b = 30 := by unfold mgE; rw [if_neg (by rw [hq]; simp)]
    have eV : mgV p q sh b = zeroD := by unfold mgV; rw [if_neg (by rw [hq]; simp)]
    rw [eE, eV]
    exact merge28_b2 p q sh b agp amp agq amq gcp mcp gcq mcq w (Lib.hid K1) (Lib.hid K2)
  cases hs : vset sh p.G.length
  · rw [hp] at K1
    rw [hq] at K2
    rw [hs] at K3
    have eE : mgE p q sh b = 1 := by unfold mgE; rw [if_pos ⟨hp, hq⟩, if_neg (by rw [hs]; simp)]
    have eV : mgV p q sh b = zeroD := by unfold mgV; rw [if_neg (by rw [hs]; simp)]
    rw [eE, eV]
    exact merge28_b3 p q sh b agp amp agq amq gcp mcp gcq mcq w (Lib.hid K1) (Lib.hid K2) (Lib.hid K3)
  rw [hp] at K1
  rw [hq] at K2
  rw [hs] at K3
  by_cases hl : p.G.length = q.G.length
  · have K56 := fun W (hW : Below w.heap.size w W) => united_any p q sh b _ _ _ _ W (hG.keep hW) (hM.keep hW) (hG'.keep hW) (hM'.keep hW) hp hq hs hl
    cases ha : alk (rsD p sh.toNat b) q
    · rw [ha] at K56
      have eE : mgE p q sh b = 31 := by unfold mgE; rw [if_pos ⟨hp, hq⟩, if_pos hs, if_neg (by rw [ha]; simp)]
      have eV : mgV p q sh b = zeroD := by unfold mgV; rw [if_neg (by rw [ha]; simp)]
      rw [eE, eV]
      exact merge28_b5 p q _ sh b agp amp agq amq gcp mcp gcq mcq w (Lib.hid K1) (Lib.hid K2) (Lib.hid K3) (Lib.hid hl.symm) (Lib.hid K56)
    · rw [ha] at K56
      have eE : mgE p q sh b = 0 := by unfold mgE; rw [if_pos ⟨hp, hq⟩, if_pos hs, if_pos ha]
      have eV : mgV p q sh b = mgD (rsD p sh.toNat b) q := by unfold mgV; rw [if_pos ⟨hp, hq, hs, ha⟩]
      rw [eE, eV]
      exact merge28_good p q _ sh b agp amp agq amq gcp mcp gcq mcq w (Lib.hid K1) (Lib.hid K2) (Lib.hid K3) (Lib.hid hl.symm) (Lib.hid K56)
  · have ha : alk (rsD p sh.toNat b) q = false := alk_short (by rw [rsD_len]; exact hl)
    have eE : mgE p q sh b = 31 := by unfold mgE; rw [if_pos ⟨hp, hq⟩, if_pos hs, if_neg (by rw [ha]; simp)]
    have eV : mgV p q sh b = zeroD := by unfold mgV; rw [if_neg (by rw [ha]; simp)]
    rw [eE, eV]
    exact merge28_b4 p q sh b agp amp agq amq gcp mcp gcq mcq w (Lib.hid K1) (Lib.hid K2) (Lib.hid K3) (by omega)

end Go.Proofs.YtcfapbccegijnaaGreat
