/- The abstract machine, part SE. -/
import Derived.Test.YtiommdfelnkibaaGreatSD
import Derived.Test.YtiommdfelnkibaaGreatRK
/- Walks: Merge of the program, where it merges. -/
namespace Go.Proofs.YtiommdfelnkibaaGreat
open Go Go.RowKit Go.Proofs Go.Abs

set_option maxRecDepth 100000 in
set_option maxHeartbeats 32000000 in
theorem merge27_good (p q y : PcD) (sh : Int) (b : Bool) (agp amp agq amq : Option Addr) (gcp mcp gcq mcq : Nat) (w : World)
    (H1 : Hid (∀ W, Below w.heap.size w W → Calls Tryz.prog 39 #[pcs p.id p.c p.r p.m p.s (.slice agp p.G.length gcp) (.slice amp p.M.length mcp)] W fun e w' => e = .returned (.bool true) ∧ Below W.heap.size W w'))
    (H2 : Hid (∀ W, Below w.heap.size w W → Calls Tryz.prog 39 #[pcs q.id q.c q.r q.m q.s (.slice agq q.G.length gcq) (.slice amq q.M.length mcq)] W fun e w' => e = .returned (.bool true) ∧ Below W.heap.size W w'))
    (H57 : Hid (∀ W, Calls Tryz.prog 57 #[st sh b, .int .i64 (p.G.length : Nat)] W fun e w' => e = .returned (.bool true) ∧ Below W.heap.size W w'))
    (H50 : Hid (∀ W, Below w.heap.size w W → Calls Tryz.prog 50 #[pcs p.id p.c p.r p.m p.s (.slice agp p.G.length gcp) (.slice amp p.M.length mcp), st sh b] W fun e w' => ∃ v, e = .returned v ∧ PcV w' W.heap.size v y ∧ Below W.heap.size W w'))
    (H54 : Hid (∀ W v, PcV W 0 v y → Below w.heap.size w W → Calls Tryz.prog 54 #[v, pcs q.id q.c q.r q.m q.s (.slice agq q.G.length gcq) (.slice amq q.M.length mcq)] W fun e w' => e = .returned (.bool true) ∧ Below W.heap.size W w'))
    (H59 : Hid (∀ W, Below w.heap.size w W → Calls Tryz.prog 59 #[.slice amq q.M.length mcq] W fun e w' => ∃ a k c, e = .returned (.slice a k c) ∧ SlM w' (.slice a k c) q.M ∧ Fr W.heap.size (.slice a k c) ∧ Below W.heap.size W w'))
    (hGq : SlG w (.slice agq q.G.length gcq) q.G) (HYL : Hid (y.G.length = q.G.length)) (hn24 : q.G.length ≤ 24) (hn0 : 0 < q.G.length) :
    Calls Tryz.prog 27 #[pcs p.id p.c p.r p.m p.s (.slice agp p.G.length gcp) (.slice amp p.M.length mcp), pcs q.id q.c q.r q.m q.s (.slice agq q.G.length gcq) (.slice amq q.M.length mcq), st sh b] w fun e w' => ∃ v, e = .returned (.tuple #[v, .int .i64 0]) ∧ PcV w' w.heap.size v (mgD y q) ∧ Below w.heap.size w w' := by
  obtain ⟨hp, hq, hs, hr, b1⟩ := pcs3_new w (pcsObj p.id p.c p.r p.m p.s (.slice agp p.G.length gcp) (.slice amp p.M.length mcp)) (pcsObj q.id q.c q.r q.m q.s (.slice agq q.G.length gcq) (.slice amq q.M.length mcq)) sh b
  obtain ⟨W0, hW0⟩ : ∃ W0, ((((w.alloc (pcsObj p.id p.c p.r p.m p.s (.slice agp p.G.length gcp) (.slice amp p.M.length mcp))).alloc (pcsObj q.id q.c q.r q.m q.s (.slice agq q.G.length gcq) (.slice amq q.M.length mcq))).alloc (stObj sh b)).alloc (.cells #[.int .i64 0, .int .i64 0, .int .i64 0, .int .i64 0, .int .i64 0, .slice none 0 0, .slice none 0 0] 25)) = W0 := ⟨_, rfl⟩
  rw [hW0] at hp hq hs hr b1
  obtain ⟨c0, c1, c2, c3, c4, c5, c6⟩ := And.intro (cell_of hp (k := 0) rfl) (And.intro (cell_of hp (k := 1) rfl) (And.intro (cell_of hp (k := 2) rfl) (And.intro (cell_of hp (k := 3) rfl) (And.intro (cell_of hp (k := 4) rfl) (And.intro (cell_of hp (k := 5) rfl) (cell_of hp (k := 6) rfl))))))
  go_enter Tryz.func27, Tryz.ntmps27
  go_wp2_with fail
  refine (H1.out _ b1).mono ?_
  rintro e w1 ⟨rfl, hb⟩
  clear hW0 c0 c1 c2 c3 c4 c5 c6
  replace b1 := keep_below b1 hb
  replace hp := (hb.block _ (Array.getElem?_eq_some_iff.1 hp).1).trans hp
  replace hq := (hb.block _ (Array.getElem?_eq_some_iff.1 hq).1).trans hq
  replace hs := (hb.block _ (Array.getElem?_eq_some_iff.1 hs).1).trans hs
  replace hr := (hb.block _ (Array.getElem?_eq_some_iff.1 hr).1).trans hr
  clear hb
  obtain ⟨c0, c1, c2, c3, c4, c5, c6⟩ := And.intro (cell_of hq (k := 0) rfl) (And.intro (cell_of hq (k := 1) rfl) (And.intro (cell_of hq (k := 2) rfl) (And.intro (cell_of hq (k := 3) rfl) (And.intro (cell_of hq (k := 4) rfl) (And.intro (cell_of hq (k := 5) rfl) (cell_of hq (k := 6) rfl))))))
  go_wp2_with fail
  refine (H2.out _ b1).mono ?_
  rintro e w2 ⟨rfl, hb⟩
  clear c0 c1 c2 c3 c4 c5 c6
  replace b1 := keep_below b1 hb
  replace hp := (hb.block _ (Array.getElem?_eq_some_iff.1 hp).1).trans hp
  replace hq := (hb.block _ (Array.getElem?_eq_some_iff.1 hq).1).trans hq
  replace hs := (hb.block _ (Array.getElem?_eq_some_iff.1 hs).1).trans hs
  replace hr := (hb.block _ (Array.getElem?_eq_some_iff.1 hr).1).trans hr
  clear hb
  obtain ⟨c0, c1, c2, c3, c4, c5, c6⟩ := And.intro (cell_of hp (k := 0) rfl) (And.intro (cell_of hp (k := 1) rfl) (And.intro (cell_of hp (k := 2) rfl) (And.intro (cell_of hp (k := 3) rfl) (And.intro (cell_of hp (k := 4) rfl) (And.intro (cell_of hp (k := 5) rfl) (cell_of hp (k := 6) rfl))))))
  obtain ⟨s0, s1⟩ := And.intro (cell_of hs (k := 0) rfl) (cell_of hs (k := 1) rfl)
  go_wp2_with fail
  refine (H57.out _).mono ?_
  rintro e w3 ⟨rfl, hb⟩
  clear c0 c1 c2 c3 c4 c5 c6 s0 s1
  replace b1 := keep_below b1 hb
  replace hp := (hb.block _ (Array.getElem?_eq_some_iff.1 hp).1).trans hp
  replace hq := (hb.block _ (Array.getElem?_eq_some_iff.1 hq).1).trans hq
  replace hs := (hb.block _ (Array.getElem?_eq_some_iff.1 hs).1).trans hs
  replace hr := (hb.block _ (Array.getElem?_eq_some_iff.1 hr).1).trans hr
  clear hb
  obtain ⟨c0, c1, c2, c3, c4, c5, c6⟩ := And.intro (cell_of hp (k := 0) rfl) (And.intro (cell_of hp (k := 1) rfl) (And.intro (cell_of hp (k := 2) rfl) (And.intro (cell_of hp (k := 3) rfl) (And.intro (cell_of hp (k := 4) rfl) (And.intro (cell_of hp (k := 5) rfl) (cell_of hp (k := 6) rfl))))))
  obtain ⟨s0, s1⟩ := And.intro (cell_of hs (k := 0) rfl) (cell_of hs (k := 1) rfl)
  go_wp2_with fail
  refine (H50.out _ b1).mono ?_
  rintro e w4 ⟨v4, rfl, hv4, hb⟩
  obtain ⟨ag8, gc8, am8, mc8, rfl, hv4⟩ := hv4.pcs
  clear c0 c1 c2 c3 c4 c5 c6 s0 s1
  replace b1 := keep_below b1 hb
  replace hp := (hb.block _ (Array.getElem?_eq_some_iff.1 hp).1).trans hp
  replace hq := (hb.block _ (Array.getElem?_eq_some_iff.1 hq).1).trans hq
  replace hs := (hb.block _ (Array.getElem?_eq_some_iff.1 hs).1).trans hs
  replace hr := (hb.block _ (Array.getElem?_eq_some_iff.1 hr).1).trans hr
  clear hb
  have hb : Below w4.heap.size w4 (w4.alloc (.cells #[.int .i64 y.id, .int .i64 y.c, .int .i64 y.r, .int .i64 y.m, .int .i64 y.s, .slice ag8 y.G.length gc8, .slice am8 y.M.length mc8] 25)) := (Below.refl _ _).alloc (Nat.le_refl _) _
  have h8 := alloc_heap_new w4 (.cells #[.int .i64 y.id, .int .i64 y.c, .int .i64 y.r, .int .i64 y.m, .int .i64 y.s, .slice ag8 y.G.length gc8, .slice am8 y.M.length mc8] 25)
  have hv8 := (hv4.mono (Nat.zero_le _)).keep hb
  clear hv4
  replace b1 := keep_below b1 hb
  replace hp := (hb.block _ (Array.getElem?_eq_some_iff.1 hp).1).trans hp
  replace hq := (hb.block _ (Array.getElem?_eq_some_iff.1 hq).1).trans hq
  replace hs := (hb.block _ (Array.getElem?_eq_some_iff.1 hs).1).trans hs
  replace hr := (hb.block _ (Array.getElem?_eq_some_iff.1 hr).1).trans hr
  clear hb
  obtain ⟨e0, e1, e2, e3, e4, e5, e6⟩ := And.intro (cell_of h8 (k := 0) rfl) (And.intro (cell_of h8 (k := 1) rfl) (And.intro (cell_of h8 (k := 2) rfl) (And.intro (cell_of h8 (k := 3) rfl) (And.intro (cell_of h8 (k := 4) rfl) (And.intro (cell_of h8 (k := 5) rfl) (cell_of h8 (k := 6) rfl))))))
  obtain ⟨c0, c1, c2, c3, c4, c5, c6⟩ := And.intro (cell_of hq (k := 0) rfl) (And.intro (cell_of hq (k := 1) rfl) (And.intro (cell_of hq (k := 2) rfl) (And.intro (cell_of hq (k := 3) rfl) (And.intro (cell_of hq (k := 4) rfl) (And.intro (cell_of hq (k := 5) rfl) (cell_of hq (k := 6) rfl))))))
  go_wp2_with fail
  obtain ⟨R8, hR8⟩ : ∃ R8, R8 = w4.heap.size := ⟨_, rfl⟩
  refine (H54.out _ _ hv8 b1).mono ?_
  rintro e w5 ⟨rfl, hb⟩
  clear c0 c1 c2 c3 c4 c5 c6 e0 e1 e2 e3 e4 e5 e6
  replace b1 := keep_below b1 hb
  replace hp := (hb.block _ (Array.getElem?_eq_some_iff.1 hp).1).trans hp
  replace hq := (hb.block _ (Array.getElem?_eq_some_iff.1 hq).1).trans hq
  replace hs := (hb.block _ (Array.getElem?_eq_some_iff.1 hs).1).trans hs
  replace hr := (hb.block _ (Array.getElem?_eq_some_iff.1 hr).1).trans hr
  replace h8 := (hb.block _ (Array.getElem?_eq_some_iff.1 h8).1).trans h8
  replace hv8 := hv8.keep hb
  clear hb
  clear H1 H2 H57 H50 H54 hp hs hR8 R8
  obtain ⟨c0, c1, c2, c3, c4, c5, c6⟩ := And.intro (cell_of hq (k := 0) rfl) (And.intro (cell_of hq (k := 1) rfl) (And.intro (cell_of hq (k := 2) rfl) (And.intro (cell_of hq (k := 3) rfl) (And.intro (cell_of hq (k := 4) rfl) (And.intro (cell_of hq (k := 5) rfl) (cell_of hq (k := 6) rfl))))))
  have N1 := alloc_heap_new w5 (.cells #[.int .i64 q.id, .int .i64 q.c, .int .i64 q.r, .int .i64 q.m, .int .i64 q.s, .slice none 0 0, .slice amq q.M.length mcq] 25)
  have B1 : Below w5.heap.size w5 (w5.alloc (.cells #[.int .i64 q.id, .int .i64 q.c, .int .i64 q.r, .int .i64 q.m, .int .i64 q.s, .slice none 0 0, .slice amq q.M.length mcq] 25)) := (Below.refl _ _).alloc (Nat.le_refl _) _
  have k5 := keep_cell B1 c5
  go_wp2_with fail
  clear k5
  obtain ⟨vg8, vm8, ev, hG8, -, -, -⟩ := hv8
  simp only [Value.agg.injEq, Array.mk.injEq, List.cons.injEq, and_true] at ev
  obtain ⟨-, -, -, -, -, rfl, rfl⟩ := ev
  have hGq5 := hGq.keep b1
  have hyl := HYL.out
  obtain ⟨b8, o8, gc8', e8, hc8⟩ := hG8.cell (by omega)
  simp only [Value.slice.injEq] at e8
  obtain ⟨rfl, -, rfl⟩ := e8
  obtain ⟨bq, oq, gcq', eq, hcq⟩ := hGq5.cell hn0
  simp only [Value.slice.injEq] at eq
  obtain ⟨rfl, -, rfl⟩ := eq
  rw [hyl] at h8 hc8
  have HC8 := Lib.hid (fun (k : Nat) (hk : k < q.G.length) => (show w5.cell? ⟨b8, o8 + k * 5, none⟩ = some (.int .i64 (gz y.G k).a) ∧ w5.cell? ⟨b8, o8 + k * 5 + 1, none⟩ = some (.int .i64 (gz y.G k).b) ∧ w5.cell? ⟨b8, o8 + k * 5 + 2, none⟩ = some (.int .i64 (gz y.G k).c) ∧ w5.cell? ⟨b8, o8 + k * 5 + 3, none⟩ = some (.int .i64 (gz y.G k).d) ∧ w5.cell? ⟨b8, o8 + k * 5 + 4, none⟩ = some (.int .i64 (gz y.G k).e) from
    ⟨by rw [hc8 _ (by omega), cG_0], by rw [Nat.add_assoc, hc8 _ (by omega), cG_1], by rw [Nat.add_assoc, hc8 _ (by omega), cG_2], by rw [Nat.add_assoc, hc8 _ (by omega), cG_3], by rw [Nat.add_assoc, hc8 _ (by omega), cG_4]⟩))
  have HCq := Lib.hid (fun (k : Nat) (hk : k < q.G.length) => (show w5.cell? ⟨bq, oq + k * 5, none⟩ = some (.int .i64 (gz q.G k).a) ∧ w5.cell? ⟨bq, oq + k * 5 + 1, none⟩ = some (.int .i64 (gz q.G k).b) ∧ w5.cell? ⟨bq, oq + k * 5 + 2, none⟩ = some (.int .i64 (gz q.G k).c) ∧ w5.cell? ⟨bq, oq + k * 5 + 3, none⟩ = some (.int .i64 (gz q.G k).d) ∧ w5.cell? ⟨bq, oq + k * 5 + 4, none⟩ = some (.int .i64 (gz q.G k).e) from
    ⟨by rw [hcq _ (by omega), cG_0], by rw [Nat.add_assoc, hcq _ (by omega), cG_1], by rw [Nat.add_assoc, hcq _ (by omega), cG_2], by rw [Nat.add_assoc, hcq _ (by omega), cG_3], by rw [Nat.add_assoc, hcq _ (by omega), cG_4]⟩))
  have C58 := Lib.hid (fun (k : Nat) W => common_any (gz y.G k) (gz q.G k) W)
  obtain ⟨F, hF⟩ : ∃ F : Nat → G5, F = fun x => comG (gz y.G x) (gz q.G x) := ⟨_, rfl⟩
  have eF : ∀ k, comG (gz y.G k) (gz q.G k) = F k := fun k => by rw [hF]
  simp only [eF] at C58
  have DONE := Lib.hid (fun (W : World) (v : Value) (h : W.ownsRow (w5.heap.size + 1) 83 5 v q.G.length (rowG F q.G.length)) => own_slg h (comL_len y.G q.G q.G.length) hn0 (by omega) (fun i hi => by rw [comL_gz y.G q.G hi, eF]))
  clear HYL hG8 hGq hGq5 hc8 hcq hF eF c0 c1 c2 c3 c4 c5 c6
  rw [hyl]
  obtain ⟨n, hn⟩ : ∃ n, q.G.length = n := ⟨_, rfl⟩
  have HN := Lib.hid hn
  rw [hn] at HC8 HCq DONE hn0 hn24 h8 hq ⊢
  clear hyl hn
  generalize w5.alloc (.cells #[.int .i64 q.id, .int .i64 q.c, .int .i64 q.r, .int .i64 q.m, .int .i64 q.s, .slice none 0 0, .slice amq q.M.length mcq] 25) = W1 at N1 B1 ⊢
  have h8l := Lib.hid (Array.getElem?_eq_some_iff.1 h8).1
  have hlq := Lib.hid (Array.getElem?_eq_some_iff.1 hr).1
  go_loopw [41] (fun i wr => ∃ k : Nat, k ≤ n ∧ i = .int .i64 k ∧ ∃ sv, Below w5.heap.size w5 wr ∧ wr.heap[w5.heap.size]? = some (.cells #[.int .i64 q.id, .int .i64 q.c, .int .i64 q.r, .int .i64 q.m, .int .i64 q.s, sv, .slice amq q.M.length mcq] 25 (0, 0)) ∧ wr.ownsRow (w5.heap.size + 1) 83 5 sv k (rowG F k)) (fun i _ => n - (intOf i).toNat)
  case atStart => exact ⟨0, Nat.zero_le _, rfl, _, B1, N1, World.ownsRow_nil _ _ _ _⟩
  case round =>
    clear N1 B1 W1
    obtain ⟨k, hk, rfl, sv, B1, N1, hown⟩ := hrel
    by_cases hlt : k < n
    · have j1 : (k : Int) < (n : Int) := by omega
      obtain ⟨x0, x1, x2, x3, x4⟩ := HCq.out k hlt
      replace x0 := keep_cell B1 x0
      replace x1 := keep_cell B1 x1
      replace x2 := keep_cell B1 x2
      replace x3 := keep_cell B1 x3
      replace x4 := keep_cell B1 x4
      obtain ⟨y0, y1, y2, y3, y4⟩ := HC8.out k hlt
      have CF := Lib.hid (C58.out k)
      obtain ⟨gk, hgk⟩ : ∃ g, gz q.G k = g := ⟨_, rfl⟩
      rw [hgk] at x0 x1 x2 x3 x4 CF
      clear hgk
      obtain ⟨r8, hr8⟩ : ∃ g, gz y.G k = g := ⟨_, rfl⟩
      rw [hr8] at y0 y1 y2 y3 y4 CF
      clear hr8
      have hlt8 : ∀ g, sv.ownBlock = some g → g < wr.heap.size := fun g h => (hown.lt g h).2
      have HLT := Lib.hid hlt8
      have nl := Lib.hid (Array.getElem?_eq_some_iff.1 N1).1
      have HN1 := Lib.hid N1
      have HB1 := Lib.hid B1
      have HOW := Lib.hid hown
      have HX := Lib.hid (show MgG w5 wr.heap.size wr.heap.size (.cells #[.int .i64 q.id, .int .i64 q.c, .int .i64 q.r, .int .i64 q.m, .int .i64 q.s, sv, .slice amq q.M.length mcq] 25 (0, 0)) gk sv F k (Array.replicate 13 false) ((wr.alloc (.cells #[.int .i64 gk.a, .int .i64 gk.b, .int .i64 gk.c, .int .i64 gk.d, .int .i64 gk.e] 83)).drew) from by
        have ba : Below wr.heap.size wr (wr.alloc (.cells #[.int .i64 gk.a, .int .i64 gk.b, .int .i64 gk.c, .int .i64 gk.d, .int .i64 gk.e] 83)).drew := ((Below.refl _ _).alloc (Nat.le_refl _) _).drew
        exact ⟨keep_below B1 ba, (ba.block _ nl.out).trans N1, fun _ => own_keep hown ba, ba.size, alloc_heap_new _ _, Nat.le_trans nl.out ba.size⟩)
      have H8 := Lib.hid h8
      clear N1 hown hlt8 B1 hq h8
      go_wp2_with fail
      refine wp_region_valsR 12 (MgV w5.heap.size w4.heap.size sv (.slice (some ⟨b8, o8, none⟩) n gc8) ⟨b8, o8 + k * 5, none⟩ r8 gk F k) (MgR (w5.heap.size + 1) sv) (MgG w5 wr.heap.size wr.heap.size (.cells #[.int .i64 q.id, .int .i64 q.c, .int .i64 q.r, .int .i64 q.m, .int .i64 q.s, sv, .slice amq q.M.length mcq] 25 (0, 0)) gk sv F k) (by kernel_rfl) (by kernel_rfl) ?_ ?_ ?_ ?_ ?_
      · exact HX.out
      · intro listed j W W' hsz _ _ hg hR
        exact hg.step (by rw [hsz]; simp) (fun h => by have := HLT.out _ h; omega) hR
      · intro listed i j v W W' hi hj hij hanc _ hv _ hR
        refine hv.step (fun h8 => ?_) hR
        subst h8
        have hj' : j = 0 ∨ j = 1 ∨ j = 2 ∨ j = 3 ∨ j = 4 ∨ j = 5 ∨ j = 6 ∨ j = 7 ∨ j = 8 ∨ j = 9 ∨ j = 11 := by omega
        rcases hj' with rfl | rfl | rfl | rfl | rfl | rfl | rfl | rfl | rfl | rfl | rfl
        all_goals first
          | rfl
          | (have h2 : false = true := hanc.symm.trans (by kernel_rfl)
             cases h2)
      · simp only [List.take_succ_cons, List.take_zero]
        intro i o ho listed a' W hli hGd hfr hdep
        have f8 : a'.tmps[8]?.getD undef = .pointer (some ⟨w4.heap.size, 0, none⟩) := Array.getD_eq_getD_getElem?.symm.trans (hfr 8 rfl)
        have f9 : a'.tmps[9]?.getD undef = .pointer (some ⟨w5.heap.size, 0, none⟩) := Array.getD_eq_getD_getElem?.symm.trans (hfr 9 rfl)
        have f10 : a'.tmps[10]?.getD undef = .int .i64 k := Array.getD_eq_getD_getElem?.symm.trans (hfr 10 rfl)
        have f11 : a'.tmps[11]?.getD undef = .pointer (some ⟨wr.heap.size, 0, none⟩) := Array.getD_eq_getD_getElem?.symm.trans (hfr 11 rfl)
        obtain ⟨hIw, hbx, hO, hX6, hTw, hsz6⟩ := hGd
        unfold gOb at hTw
        clear hfr
        have hi : i < 12 := by have := (List.getElem?_eq_some_iff.1 ho).1; simpa using this
        obtain rfl | rfl | rfl | rfl | rfl | rfl | rfl | rfl | rfl | rfl | rfl | rfl : i = 0 ∨ i = 1 ∨ i = 2 ∨ i = 3 ∨ i = 4 ∨ i = 5 ∨ i = 6 ∨ i = 7 ∨ i = 8 ∨ i = 9 ∨ i = 10 ∨ i = 11 := by omega
        all_goals simp only [List.getElem?_cons_zero, List.getElem?_cons_succ, Option.some.injEq] at ho
        all_goals subst ho
        · clear hdep
          refine .inl ⟨_, W, ?_, mgR_refl (by omega), rfl⟩
          go_simp
        · have d0 : a'.tmps[46]?.getD undef = .pointer (some ⟨w5.heap.size, 5, none⟩) := Array.getD_eq_getD_getElem?.symm.trans (hdep ⟨0, .data⟩ (by simp) rfl 46 rfl)
          have c0 : W.cell? ⟨w5.heap.size, 5, none⟩ = some sv := cell_of hbx rfl
          clear hdep
          refine .inl ⟨_, W, ?_, mgR_refl (by omega), rfl⟩
          go_simp
        · clear hdep
          refine .inl ⟨_, W, ?_, mgR_refl (by omega), rfl⟩
          go_simp
        · have d2 : a'.tmps[48]?.getD undef = .pointer (some ⟨w4.heap.size, 5, none⟩) := Array.getD_eq_getD_getElem?.symm.trans (hdep ⟨2, .data⟩ (by simp) rfl 48 rfl)
          have h8w := (hIw.block _ h8l.out).trans H8.out
          have c0 : W.cell? ⟨w4.heap.size, 5, none⟩ = some (.slice (some ⟨b8, o8, none⟩) n gc8) := cell_of h8w rfl
          clear h8w
          clear hdep
          refine .inl ⟨_, W, ?_, mgR_refl (by omega), rfl⟩
          go_simp
        · clear hdep
          refine .inl ⟨_, W, ?_, mgR_refl (by omega), rfl⟩
          go_simp
        · have d3 : a'.tmps[49]?.getD undef = .slice (some ⟨b8, o8, none⟩) n gc8 := Array.getD_eq_getD_getElem?.symm.trans (hdep ⟨3, .data⟩ (by simp) rfl 49 rfl)
          have d4 : a'.tmps[50]?.getD undef = .int .i64 k := Array.getD_eq_getD_getElem?.symm.trans (hdep ⟨4, .data⟩ (by simp) rfl 50 rfl)
          clear hdep
          refine .inl ⟨.pointer (some ⟨b8, o8 + k * 5, none⟩), W, ?_, mgR_refl (by omega), rfl⟩
          go_simp
        · have d5 : a'.tmps[51]?.getD undef = .pointer (some ⟨b8, o8 + k * 5, none⟩) := Array.getD_eq_getD_getElem?.symm.trans (hdep ⟨5, .data⟩ (by simp) rfl 51 rfl)
          have c0 := keep_cell hIw y0
          have c1 := keep_cell hIw y1
          have c2 := keep_cell hIw y2
          have c3 := keep_cell hIw y3
          have c4 := keep_cell hIw y4
          clear hdep
          refine .inl ⟨_, W, ?_, mgR_refl (by omega), rfl⟩
          go_simp
        · have c0 := cell_of hTw (k := 0) rfl
          have c1 := cell_of hTw (k := 1) rfl
          have c2 := cell_of hTw (k := 2) rfl
          have c3 := cell_of hTw (k := 3) rfl
          have c4 := cell_of hTw (k := 4) rfl
          clear hdep
          refine .inl ⟨_, W, ?_, mgR_refl (by omega), rfl⟩
          go_simp
        · have d6 : a'.tmps[52]?.getD undef = gg r8.a r8.b r8.c r8.d r8.e := Array.getD_eq_getD_getElem?.symm.trans (hdep ⟨6, .data⟩ (by simp) rfl 52 rfl)
          have d7 : a'.tmps[53]?.getD undef = gg gk.a gk.b gk.c gk.d gk.e := Array.getD_eq_getD_getElem?.symm.trans (hdep ⟨7, .data⟩ (by simp) rfl 53 rfl)
          clear hdep
          refine .inr ⟨58, #[gg r8.a r8.b r8.c r8.d r8.e, gg gk.a gk.b gk.c gk.d gk.e], ?_, (CF.out W).mono ?_⟩
          · go_simp
          · rintro e W' ⟨rfl, hb⟩
            exact ⟨_, rfl, mgR_below (by omega) (by omega) hb, rfl⟩
        · have d8 : a'.tmps[54]?.getD undef = gg (F k).a (F k).b (F k).c (F k).d (F k).e := Array.getD_eq_getD_getElem?.symm.trans (hdep ⟨8, .data⟩ (by simp) rfl 54 rfl)
          clear hdep
          refine .inl ⟨.slice (some ⟨W.heap.size, 0, none⟩) 1 1, W.alloc (.cells #[.int .i64 (F k).a, .int .i64 (F k).b, .int .i64 (F k).c, .int .i64 (F k).d, .int .i64 (F k).e] 83), ?_, mgR_below (by omega) (by omega) ((Below.refl _ _).alloc (Nat.le_refl _) _), W.heap.size, rfl, by simp, fun h => ?_, alloc_heap_new _ _⟩
          · go_simp
          · have := HLT.out _ h
            omega
        · have d1 : a'.tmps[47]?.getD undef = sv := Array.getD_eq_getD_getElem?.symm.trans (hdep ⟨1, .data⟩ (by simp) rfl 47 rfl)
          obtain ⟨g, hv7, hg1, hg2, hg3⟩ := hdep ⟨9, .data⟩ (by simp) rfl 55 rfl
          have d7 : a'.tmps[55]?.getD undef = .slice (some ⟨g, 0, none⟩) 1 1 := Array.getD_eq_getD_getElem?.symm.trans hv7
          clear hdep
          have hO' := hO hli
          obtain ⟨v', W', h1, h2, h3⟩ := run_append_gauge 22 hO' (by omega) hsz6 hg3
          refine .inl ⟨v', W', ?_, mgR_app h3 hsz6 (fun j hj => (hO'.lt j hj).1), h2⟩
          simp only [execOp, resolve, invoke, builtin, Sem.run_bind, Sem.run_pure, Result.andThen_ok, List.map_toArray, List.map_cons, List.map_nil, Act.eval, Array.getD_eq_getD_getElem?, d1, d7, h1]
        · clear hdep
          refine .inl ⟨_, W, ?_, mgR_refl (by omega), rfl⟩
          go_simp
      · intro listed W hle hGd
        subst hle
        simp only [List.take_succ_cons, List.take_zero, List.map_cons, List.map_nil, VQ]
        rintro _ rfl v1 hv1 _ rfl _ rfl _ rfl _ rfl _ rfl _ rfl _ rfl _ ⟨g, rfl, -⟩ v8 hv8 _ rfl
        rw [hv1]
        clear hv1 v1
        simp only [List.setIfInBounds_toArray, List.set_cons_zero, List.set_cons_succ, List.length_cons, List.length_nil, Nat.reduceAdd, Nat.reduceSub, ledList, List.replicate, List.cons_append, List.nil_append]
        obtain ⟨hIw, hbx, -, -, -, -⟩ := hGd
        have q5 : W.cell? ⟨w5.heap.size, 5, none⟩ = some sv := cell_of hbx rfl
        have z5 : W.frozen? ⟨w5.heap.size, 5, none⟩ = false := frozen_of hbx
        have hI5 : Below w5.heap.size w5 (W.setCell ⟨w5.heap.size, 5, none⟩ v8) := hIw.setCell (p := ⟨w5.heap.size, 5, none⟩) (Nat.le_refl _) v8
        have hB5 := set5_box (v := v8) hbx
        have hO5 : (W.setCell ⟨w5.heap.size, 5, none⟩ v8).ownsRow (w5.heap.size + 1) 83 5 v8 (k + 1) (rowG F (k + 1)) := own_other hv8 (by omega)
        obtain ⟨g8, cap8, rfl⟩ := own_slice hv8 (by omega)
        clear hIw hv8 hbx HX HN1 HB1 HOW HLT x0 x1 x2 x3 x4 y0 y1 y2 y3 y4
        refine wpAny_ready (rs := [12]) (by kernel_rfl) (by simp) (AllReady.cons rfl (fun K hK => ?_) AllReady.nil)
        simp only [List.getElem_toArray, List.getElem_cons_succ, List.getElem_cons_zero]
        rw [if_pos (show Region.wanted _ _ = true from rfl)]
        have HK := Lib.hid hK
        clear hK
        go_wp2_with fail
        refine HK.out _ _ ?_
        clear HK K
        refine wpAny_done (by kernel_rfl) ?_ _
        simp only [Exit.inBlock, Exit.then]
        go_at_K
        go_wp2
        exact ⟨⟨k + 1, by omega, by simp, _, hI5, hB5, hO5⟩, by simp [intOf]; omega⟩
    · obtain rfl : k = n := by omega
      have bw := keep_below b1 B1
      replace hq := (B1.block _ (Array.getElem?_eq_some_iff.1 hq).1).trans hq
      replace hr := (B1.block _ (Array.getElem?_eq_some_iff.1 hr).1).trans hr
      have hlr := Lib.hid (Array.getElem?_eq_some_iff.1 hr).1
      have l4 := Lib.hid (show w.heap.size + 3 < w5.heap.size from hlq.out)
      have c6 := cell_of hq (k := 6) rfl
      have CRw := H59.out wr bw
      obtain ⟨g5, cap5, rfl⟩ := own_slice hown (by omega)
      have nl := Lib.hid (Array.getElem?_eq_some_iff.1 N1).1
      go_wp2_with fail
      refine CRw.mono ?_
      rintro e w6 ⟨a6, n6, e6, rfl, hS6, hF6, hb6⟩
      replace bw := keep_below bw hb6
      replace N1 := (hb6.block _ nl.out).trans N1
      replace hr := (hb6.block _ hlr.out).trans hr
      have hO6 := own_keep hown hb6
      have hbl := Lib.hid hF6
      clear c6 hq hown hF6 CRw
      have x0 := cell_of N1 (k := 0) rfl
      have x1 := cell_of N1 (k := 1) rfl
      have x2 := cell_of N1 (k := 2) rfl
      have x3 := cell_of N1 (k := 3) rfl
      have x4 := cell_of N1 (k := 4) rfl
      have x5 := cell_of N1 (k := 5) rfl
      have x6 := cell_of N1 (k := 6) rfl
      have y6 : w6.frozen? ⟨w5.heap.size, 6, none⟩ = false := frozen_of N1
      obtain ⟨z0, z1, z2, z3, z4, z5, z6⟩ := And.intro (cell_of hr (k := 0) rfl) (And.intro (cell_of hr (k := 1) rfl) (And.intro (cell_of hr (k := 2) rfl) (And.intro (cell_of hr (k := 3) rfl) (And.intro (cell_of hr (k := 4) rfl) (And.intro (cell_of hr (k := 5) rfl) (cell_of hr (k := 6) rfl))))))
      have f0 : w6.frozen? ⟨w.heap.size + 3, 0, none⟩ = false := frozen_of hr
      have f1 : w6.frozen? ⟨w.heap.size + 3, 1, none⟩ = false := frozen_of hr
      have f2 : w6.frozen? ⟨w.heap.size + 3, 2, none⟩ = false := frozen_of hr
      have f3 : w6.frozen? ⟨w.heap.size + 3, 3, none⟩ = false := frozen_of hr
      have f4 : w6.frozen? ⟨w.heap.size + 3, 4, none⟩ = false := frozen_of hr
      have f5 : w6.frozen? ⟨w.heap.size + 3, 5, none⟩ = false := frozen_of hr
      have f6 : w6.frozen? ⟨w.heap.size + 3, 6, none⟩ = false := frozen_of hr
      have hne : w.heap.size + 3 ≠ w5.heap.size := by have := l4.out; omega
      go_wp2_with fail
      obtain ⟨W3, hW3⟩ : ∃ W3, W3 = w6.setCell ⟨w5.heap.size, 6, none⟩ (.slice a6 n6 e6) := ⟨_, rfl⟩
      have hr3 : W3.heap[w.heap.size + 3]? = some (.cells #[.int .i64 0, .int .i64 0, .int .i64 0, .int .i64 0, .int .i64 0, .slice none 0 0, .slice none 0 0] 25 (0, 0)) := by
        rw [hW3, heap_setOther (by omega)]
        exact hr
      have hb3 : Below w.heap.size w W3 := by
        rw [hW3]
        exact bw.setCell (p := ⟨w5.heap.size, 6, none⟩) (by have := l4.out; simp; omega) _
      have hO3 : W3.ownsRow (w5.heap.size + 1) 83 5 (.slice (some ⟨g5, 0, none⟩) k cap5) k (rowG F k) := by
        rw [hW3]
        exact own_other hO6 (by omega)
      have hS3 : SlM W3 (.slice a6 n6 e6) q.M := by
        rw [hW3]
        refine slm_set hS6 (fun p n' c' h => ?_)
        have := hbl.out p n' c' h
        have := nl.out
        omega
      rw [← hW3]
      clear hW3
      obtain ⟨WF, hWF⟩ : ∃ WF, ((((((W3.setCell ⟨w.heap.size + 3, 0, none⟩ (.int .i64 q.id)).setCell ⟨w.heap.size + 3, 1, none⟩ (.int .i64 q.c)).setCell ⟨w.heap.size + 3, 2, none⟩ (.int .i64 q.r)).setCell ⟨w.heap.size + 3, 3, none⟩ (.int .i64 q.m)).setCell ⟨w.heap.size + 3, 4, none⟩ (.int .i64 q.s)).setCell ⟨w.heap.size + 3, 5, none⟩ (.slice (some ⟨g5, 0, none⟩) k cap5)).setCell ⟨w.heap.size + 3, 6, none⟩ (.slice a6 n6 e6) = WF := ⟨_, rfl⟩
      rw [hWF]
      have hf : WF.heap[w.heap.size + 3]? = some (.cells #[.int .i64 q.id, .int .i64 q.c, .int .i64 q.r, .int .i64 q.m, .int .i64 q.s, .slice (some ⟨g5, 0, none⟩) k cap5, .slice a6 n6 e6] 25 (0, 0)) := by
        rw [← hWF]
        exact res7 hr3
      have hb4 : Below w.heap.size w WF := by
        rw [← hWF]
        exact ((((((hb3.setCell (p := ⟨w.heap.size + 3, 0, none⟩) (by simp) _).setCell (p := ⟨w.heap.size + 3, 1, none⟩) (by simp) _).setCell (p := ⟨w.heap.size + 3, 2, none⟩) (by simp) _).setCell (p := ⟨w.heap.size + 3, 3, none⟩) (by simp) _).setCell (p := ⟨w.heap.size + 3, 4, none⟩) (by simp) _).setCell (p := ⟨w.heap.size + 3, 5, none⟩) (by simp) _).setCell (p := ⟨w.heap.size + 3, 6, none⟩) (by simp) _
      have hO4 : WF.ownsRow (w5.heap.size + 1) 83 5 (.slice (some ⟨g5, 0, none⟩) k cap5) k (rowG F k) := by
        rw [← hWF]
        exact own_other (own_other (own_other (own_other (own_other (own_other (own_other hO3 (by have := l4.out; omega)) (by have := l4.out; omega)) (by have := l4.out; omega)) (by have := l4.out; omega)) (by have := l4.out; omega)) (by have := l4.out; omega)) (by have := l4.out; omega)
      have hM4 : SlM WF (.slice a6 n6 e6) q.M := by
        rw [← hWF]
        refine slm_set (slm_set (slm_set (slm_set (slm_set (slm_set (slm_set hS3 ?_) ?_) ?_) ?_) ?_) ?_) ?_
        all_goals intro p n' c' h
        all_goals have := hbl.out p n' c' h
        all_goals have := nl.out
        all_goals have := l4.out
        all_goals omega
      have hG4 := DONE.out WF _ hO4
      have hl := run_loadVar_mid (P := Tryz.prog) _ (w.heap.size + 3) 0 25 [.int .i64 q.id, .int .i64 q.c, .int .i64 q.r, .int .i64 q.m, .int .i64 q.s, .slice (some ⟨g5, 0, none⟩) k cap5, .slice a6 n6 e6] _ (range_of hf) Tryz.underlying25 rfl (by kernel_rfl)
      refine bodyPost_ret (results_cell_tmp (fn := Tryz.f27) rfl _ (by rfl) hl) rfl ?_
      refine ⟨_, rfl, ⟨_, _, rfl, ?_, hM4, fun p n' c' h => (by cases h; have := (hO4.lt g5 rfl).1; have := l4.out; show w.heap.size ≤ g5; omega), fun p n' c' h => (by have := hbl.out p n' c' h; have := nl.out; have := l4.out; omega)⟩, hb4⟩
      show SlG WF _ (comL y.G q.G q.G.length)
      rw [HN.out]
      exact hG4

end Go.Proofs.YtiommdfelnkibaaGreat

/- Merge of the program, put together. -/
namespace Go.Proofs.YtiommdfelnkibaaGreat
open Go Go.RowKit Go.Proofs Go.Abs

theorem cloneM_any (v : Value) (M : List M3) (w : World) (h : SlM w v M) (hl : M.length ≤ 1000) :
    Calls Tryz.prog 59 #[v] w fun e w' => ∃ a k c, e = .returned (.slice a k c) ∧ SlM w' (.slice a k c) M ∧ Fr w.heap.size (.slice a k c) ∧ Below w.heap.size w w' := by
  by_cases h0 : M.length = 0
  · have e := List.eq_nil_of_length_eq_zero h0
    subst e
    obtain ⟨ma, mc, rfl, -, -⟩ := h
    cases ma with
    | none =>
      refine (cloneM_nil2 0 mc w).mono ?_
      rintro e w' ⟨rfl, rfl⟩
      exact ⟨_, _, _, rfl, slm_nil _, fun a n c h => (by cases h), Below.refl _ _⟩
    | some ma =>
      refine (cloneM_emp ma mc w).mono ?_
      rintro e w' ⟨rfl, rfl⟩
      exact ⟨_, _, _, rfl, ⟨_, _, rfl, by simp, fun k hk => absurd hk (by simp)⟩, fun a n c h => (by cases h; exact Nat.le_refl _), (Below.refl _ _).alloc (Nat.le_refl _) _⟩
  · obtain ⟨bb, off, cap, rfl, hc⟩ := h.cellM (by omega)
    refine (cloneM_some bb off cap M (by omega) (by omega) w hc).mono ?_
    rintro e w' ⟨g, cap', rfl, hg, hR, hb⟩
    exact ⟨_, _, _, rfl, hR.slm cap' (by omega), fun a n c h => (by cases h; exact hg), hb⟩

theorem merge27_any (p q : PcD) (sh : Int) (b : Bool) (vg vm vg' vm' : Value) (w : World) (hG : SlG w vg p.G) (hM : SlM w vm p.M) (hG' : SlG w vg' q.G) (hM' : SlM w vm' q.M) :
    Calls Tryz.prog 27 #[pcs p.id p.c p.r p.m p.s vg vm, pcs q.id q.c q.r q.m q.s vg' vm', st sh b] w fun e w' => ∃ v, e = .returned (.tuple #[v, .int .i64 (mgE p q sh b)]) ∧ PcV w' w.heap.size v (mgV p q sh b) ∧ Below w.heap.size w w' := by
  obtain ⟨agp, gcp, rfl, -⟩ := _root_.id hG
  obtain ⟨amp, mcp, rfl, -⟩ := _root_.id hM
  obtain ⟨agq, gcq, rfl, -⟩ := _root_.id hG'
  obtain ⟨amq, mcq, rfl, -⟩ := _root_.id hM'
  have K1 := fun W (hW : Below w.heap.size w W) => validPiece_any p.id p.c p.r p.m p.s _ _ p.G p.M W (hG.keep hW) (hM.keep hW)
  have K2 := fun W (hW : Below w.heap.size w W) => validPiece_any q.id q.c q.r q.m q.s _ _ q.G q.M W (hG'.keep hW) (hM'.keep hW)
  have K3 := fun W => validSetting_any sh p.G.length b W
  have e1 : vP p.id p.c p.r p.m p.s p.G p.M = p.ok := rfl
  have e2 : vP q.id q.c q.r q.m q.s q.G q.M = q.ok := rfl
  rw [e1] at K1
  rw [e2] at K2
  cases hp : p.ok
  · rw [hp] at K1
    have eE : mgE p q sh b = 30 := by unfold mgE; rw [if_neg (by rw [hp]; simp)]
    have eV : mgV p q sh b = zeroD := by unfold mgV; rw [if_neg (by rw [hp]; simp)]
    rw [eE, eV]
    exact merge27_b1 p q sh b agp amp agq amq gcp mcp gcq mcq w (Lib.hid K1)
  cases hq : q.ok
  · rw [hp] at K1
    rw [hq] at K2
    have eE : mgE p q sh b = 30 := by unfold mgE; rw [if_neg (by rw [hq]; simp)]
    have eV : mgV p q sh b = zeroD := by unfold mgV; rw [if_neg (by rw [hq]; simp)]
    rw [eE, eV]
    exact merge27_b2 p q sh b agp amp agq amq gcp mcp gcq mcq w (Lib.hid K1) (Lib.hid K2)
  cases hs : vset sh p.G.length
  · rw [hp] at K1
    rw [hq] at K2
    rw [hs] at K3
    have eE : mgE p q sh b = 1 := by unfold mgE; rw [if_pos ⟨hp, hq⟩, if_neg (by rw [hs]; simp)]
    have eV : mgV p q sh b = zeroD := by unfold mgV; rw [if_neg (by rw [hs]; simp)]
    rw [eE, eV]
    exact merge27_b3 p q sh b agp amp agq amq gcp mcp gcq mcq w (Lib.hid K1) (Lib.hid K2) (Lib.hid K3)
  have hpq := ok_parts hp
  obtain ⟨h3, -, -⟩ := ok_parts hq
  obtain ⟨es, ls⟩ := vset_nat hs
  have hy : (rsD p sh.toNat b).sm := ok_sm (rsD_ok b hp ls)
  have K50 := Lib.hid (fun W (hW : Below w.heap.size w W) => reset50_any p _ _ sh b W (hG.keep hW) (hM.keep hW) hp hs)
  have K54 := Lib.hid (fun W v (hv : PcV W 0 v (rsD p sh.toNat b)) (hW : Below w.heap.size w W) => alike_any W hv (B2 := 0) (⟨_, _, rfl, hG'.keep hW, hM'.keep hW, fun _ _ _ _ => Nat.zero_le _, fun _ _ _ _ => Nat.zero_le _⟩ : PcV W 0 (pcs q.id q.c q.r q.m q.s (.slice agq q.G.length gcq) (.slice amq q.M.length mcq)) q) hy (ok_sm hq))
  rw [hp] at K1
  rw [hq] at K2
  rw [hs] at K3
  cases ha : alk (rsD p sh.toNat b) q
  · rw [ha] at K54
    have eE : mgE p q sh b = 31 := by unfold mgE; rw [if_pos ⟨hp, hq⟩, if_pos hs, if_neg (by rw [ha]; simp)]
    have eV : mgV p q sh b = zeroD := by unfold mgV; rw [if_neg (by rw [ha]; simp)]
    rw [eE, eV]
    exact merge27_b4 p q _ sh b agp amp agq amq gcp mcp gcq mcq w (Lib.hid K1) (Lib.hid K2) (Lib.hid K3) K50 K54
  · rw [ha] at K54
    have eE : mgE p q sh b = 0 := by unfold mgE; rw [if_pos ⟨hp, hq⟩, if_pos hs, if_pos ha]
    have eV : mgV p q sh b = mgD (rsD p sh.toNat b) q := by unfold mgV; rw [if_pos ⟨hp, hq, hs, ha⟩]
    rw [eE, eV]
    exact merge27_good p q _ sh b agp amp agq amq gcp mcp gcq mcq w (Lib.hid K1) (Lib.hid K2) (Lib.hid K3) K50 K54
      (Lib.hid fun W hW => cloneM_any _ q.M W (hM'.keep hW) (ok_sm hq).2) hG' (Lib.hid (alk_len ha)) h3.2 (by omega)

end Go.Proofs.YtiommdfelnkibaaGreat
