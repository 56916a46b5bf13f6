/- The abstract machine, part RK. -/
import Derived.Test.YtcfapbccegijnaaGreatRH
import Derived.Test.YtcfapbccegijnaaGreatZA
/- Walks: law 7 (GlassComposes). -/
namespace Go.Proofs.YtcfapbccegijnaaGreat
open Go Go.RowKit Go.Proofs Go.Abs

theorem PcV.pcs {W : World} {B : Nat} {v : Value} {d : PcD} (h : PcV W B v d) : ∃ ag gc am mc, v = pcs d.id d.c d.r d.m d.s (.slice ag d.G.length gc) (.slice am d.M.length mc) ∧ PcV W B v d := by
  obtain ⟨ag, gc, am, mc, h1, -⟩ := h.shape
  exact ⟨ag, gc, am, mc, h1, h⟩

theorem pcs_st2 (w : World) (id c r m s : Int) (vg vm : Value) (sh : Int) (b : Bool) (th : Int) (e : Bool) :
    (((w.alloc (pcsObj id c r m s vg vm)).alloc (stObj sh b)).alloc (stObj th e)).heap[w.heap.size]? = some (pcsObj id c r m s vg vm) ∧ (((w.alloc (pcsObj id c r m s vg vm)).alloc (stObj sh b)).alloc (stObj th e)).heap[w.heap.size + 1]? = some (stObj sh b) ∧ (((w.alloc (pcsObj id c r m s vg vm)).alloc (stObj sh b)).alloc (stObj th e)).heap[w.heap.size + 2]? = some (stObj th e) := by
  obtain ⟨h1, h2⟩ := pcs_st w id c r m s vg vm sh b
  refine ⟨(alloc_heap_old _ _ (by simp; omega)).trans h1, (alloc_heap_old _ _ (by simp)).trans h2, ?_⟩
  have := alloc_heap_new ((w.alloc (pcsObj id c r m s vg vm)).alloc (stObj sh b)) (stObj th e)
  rwa [World.size_alloc, World.size_alloc] at this

set_option maxRecDepth 100000 in
set_option maxHeartbeats 16000000 in
theorem composesLaw_bad (d : PcD) (sh th : Int) (bs bt : Bool) (pv : Value) (agp amp la : Option Addr) (gcp mcp ln lcap : Nat) (w : World) (pb ov sv tv : Bool) (hpv : pv = .slice la ln lcap) (hbad : (pb && ov && sv && tv) = false)
    (H35 : Hid (∀ W, Below w.heap.size w W → Calls Tryz.prog 35 #[pcs d.id d.c d.r d.m d.s (.slice agp d.G.length gcp) (.slice amp d.M.length mcp)] W fun e w' => e = .returned (.bool pb) ∧ Below W.heap.size W w'))
    (H29 : Hid (∀ W, Below w.heap.size w W → Calls Tryz.prog 29 #[pv] W fun e w' => e = .returned (.bool ov) ∧ Below W.heap.size W w'))
    (H36s : Hid (∀ W, Calls Tryz.prog 36 #[st sh bs, .int .i64 (d.G.length : Nat)] W fun e w' => e = .returned (.bool sv) ∧ Below W.heap.size W w'))
    (H36t : Hid (∀ W, Calls Tryz.prog 36 #[st th bt, .int .i64 (d.G.length : Nat)] W fun e w' => e = .returned (.bool tv) ∧ Below W.heap.size W w')) :
    Calls Tryz.prog 7 #[pcs d.id d.c d.r d.m d.s (.slice agp d.G.length gcp) (.slice amp d.M.length mcp), pv, st sh bs, st th bt] w fun e w' => e = .returned (.bool true) ∧ Below w.heap.size w w' := by
  subst hpv
  have b0 : Below w.heap.size w (((w.alloc (pcsObj d.id d.c d.r d.m d.s (.slice agp d.G.length gcp) (.slice amp d.M.length mcp))).alloc (stObj sh bs)).alloc (stObj th bt)) := (((Below.refl _ _).alloc (Nat.le_refl _) _).alloc (by simp) _).alloc (by simp; omega) _
  obtain ⟨hp0, hs0, ht0⟩ := pcs_st2 w d.id d.c d.r d.m d.s (.slice agp d.G.length gcp) (.slice amp d.M.length mcp) sh bs th bt
  go_enter Tryz.func7, Tryz.ntmps7
  go_upto_region 2 with (go_at_call 10; refine (awake_any _).mono ?_; rintro e w1 ⟨rfl, hb⟩)
  have b1 := keep_below b0 hb
  have hp := (hb.block w.heap.size (by simp; omega)).trans hp0
  have hs := (hb.block (w.heap.size + 1) (by simp <;> omega)).trans hs0
  have ht := (hb.block (w.heap.size + 2) (by simp)).trans ht0
  clear hp0 hs0 ht0 b0 hb
  obtain ⟨hp_0, hp_1, hp_2, hp_3, hp_4, hp_5, hp_6⟩ := And.intro (cell_of hp (k := 0) rfl) (And.intro (cell_of hp (k := 1) rfl) (And.intro (cell_of hp (k := 2) rfl) (And.intro (cell_of hp (k := 3) rfl) (And.intro (cell_of hp (k := 4) rfl) (And.intro (cell_of hp (k := 5) rfl) (cell_of hp (k := 6) rfl))))))
  obtain ⟨hs_0, hs_1⟩ := And.intro (cell_of hs (k := 0) rfl) (cell_of hs (k := 1) rfl)
  obtain ⟨ht_0, ht_1⟩ := And.intro (cell_of ht (k := 0) rfl) (cell_of ht (k := 1) rfl)
  cases pb <;> cases ov <;> cases sv <;> cases tv
  case true.true.true.true => cases hbad
  all_goals clear hbad
  all_goals go_wp2_with (first
    | (go_at_call 35; with_reducible refine (H35.out _ b1).mono ?_; rintro e w2 ⟨rfl, hb⟩
       have b1 := keep_below b1 hb
       replace hs_0 := keep_cell hb hs_0
       replace hs_1 := keep_cell hb hs_1
       replace ht_0 := keep_cell hb ht_0
       replace ht_1 := keep_cell hb ht_1
       clear hb)
    | (go_at_call 29; with_reducible refine (H29.out _ b1).mono ?_; rintro e w3 ⟨rfl, hb⟩
       have b1 := keep_below b1 hb
       replace hs_0 := keep_cell hb hs_0
       replace hs_1 := keep_cell hb hs_1
       replace ht_0 := keep_cell hb ht_0
       replace ht_1 := keep_cell hb ht_1
       clear hb)
    | (go_at_call 36; with_reducible refine (H36s.out _).mono ?_; rintro e w4 ⟨rfl, hb⟩
       have b1 := keep_below b1 hb
       replace ht_0 := keep_cell hb ht_0
       replace ht_1 := keep_cell hb ht_1
       clear hb)
    | (go_at_call 36; with_reducible refine (H36t.out _).mono ?_; rintro e w4 ⟨rfl, hb⟩
       have b1 := keep_below b1 hb
       clear hb))
  all_goals go_ret
  all_goals exact ⟨rfl, b1⟩

set_option maxRecDepth 100000 in
set_option maxHeartbeats 32000000 in
theorem composesLaw_good (d y z : PcD) (sh th u iv : Int) (bs bt bu f : Bool) (pv : Value) (agp amp la : Option Addr) (gcp mcp ln lcap : Nat) (w : World) (hpv : pv = .slice la ln lcap)
    (hdG : d.G.length ≤ 1000) (hdM : d.M.length ≤ 1000) (hzG : z.G.length ≤ 1000) (hzM : z.M.length ≤ 1000)
    (HP : Hid (PcV w 0 (pcs d.id d.c d.r d.m d.s (.slice agp d.G.length gcp) (.slice amp d.M.length mcp)) d))
    (H35 : Hid (∀ W, Below w.heap.size w W → Calls Tryz.prog 35 #[pcs d.id d.c d.r d.m d.s (.slice agp d.G.length gcp) (.slice amp d.M.length mcp)] W fun e w' => e = .returned (.bool true) ∧ Below W.heap.size W w'))
    (H29 : Hid (∀ W, Below w.heap.size w W → Calls Tryz.prog 29 #[pv] W fun e w' => e = .returned (.bool true) ∧ Below W.heap.size W w'))
    (H36s : Hid (∀ W, Calls Tryz.prog 36 #[st sh bs, .int .i64 (d.G.length : Nat)] W fun e w' => e = .returned (.bool true) ∧ Below W.heap.size W w'))
    (H36t : Hid (∀ W, Calls Tryz.prog 36 #[st th bt, .int .i64 (d.G.length : Nat)] W fun e w' => e = .returned (.bool true) ∧ Below W.heap.size W w'))
    (H17a : Hid (∀ W, Below w.heap.size w W → Calls Tryz.prog 17 #[pcs d.id d.c d.r d.m d.s (.slice agp d.G.length gcp) (.slice amp d.M.length mcp), st sh bs] W fun e w' => ∃ v, e = .returned (.tuple #[v, .int .i64 0]) ∧ PcV w' W.heap.size v y ∧ Below W.heap.size W w'))
    (H37 : Hid (∀ W, Calls Tryz.prog 37 #[st sh bs, st th bt, .int .i64 (d.G.length : Nat)] W fun e w' => e = .returned (.tuple #[st u bu, .int .i64 0]) ∧ Below W.heap.size W w'))
    (H38 : Hid (∀ W, Calls Tryz.prog 38 #[st sh bs, .int .i64 (d.G.length : Nat)] W fun e w' => e = .returned (.tuple #[st iv bs, .int .i64 0]) ∧ Below W.heap.size W w'))
    (H39 : Hid (∀ W ag gc am mc, PcV W 0 (pcs y.id y.c y.r y.m y.s (.slice ag y.G.length gc) (.slice am y.M.length mc)) y → Below w.heap.size w W → Calls Tryz.prog 39 #[pcs y.id y.c y.r y.m y.s (.slice ag y.G.length gc) (.slice am y.M.length mc)] W fun e w' => e = .returned (.bool true) ∧ Below W.heap.size W w'))
    (H12a : Hid (∀ W ag gc am mc, PcV W 0 (pcs y.id y.c y.r y.m y.s (.slice ag y.G.length gc) (.slice am y.M.length mc)) y → Below w.heap.size w W → Calls Tryz.prog 12 #[pcs y.id y.c y.r y.m y.s (.slice ag y.G.length gc) (.slice am y.M.length mc), pv, st th bt] W fun e w' => e = .returned (.tuple #[.bool f, .int .i64 0]) ∧ Below W.heap.size W w'))
    (H12b : Hid (∀ W, Below w.heap.size w W → Calls Tryz.prog 12 #[pcs d.id d.c d.r d.m d.s (.slice agp d.G.length gcp) (.slice amp d.M.length mcp), pv, st u bu] W fun e w' => e = .returned (.tuple #[.bool f, .int .i64 0]) ∧ Below W.heap.size W w'))
    (H17b : Hid (∀ W ag gc am mc, PcV W 0 (pcs y.id y.c y.r y.m y.s (.slice ag y.G.length gc) (.slice am y.M.length mc)) y → Calls Tryz.prog 17 #[pcs y.id y.c y.r y.m y.s (.slice ag y.G.length gc) (.slice am y.M.length mc), st th bt] W fun e w' => ∃ v, e = .returned (.tuple #[v, .int .i64 0]) ∧ PcV w' W.heap.size v z ∧ Below W.heap.size W w'))
    (H17c : Hid (∀ W, Below w.heap.size w W → Calls Tryz.prog 17 #[pcs d.id d.c d.r d.m d.s (.slice agp d.G.length gcp) (.slice amp d.M.length mcp), st u bu] W fun e w' => ∃ v, e = .returned (.tuple #[v, .int .i64 0]) ∧ PcV w' W.heap.size v z ∧ Below W.heap.size W w'))
    (H17d : Hid (∀ W ag gc am mc, PcV W 0 (pcs y.id y.c y.r y.m y.s (.slice ag y.G.length gc) (.slice am y.M.length mc)) y → Calls Tryz.prog 17 #[pcs y.id y.c y.r y.m y.s (.slice ag y.G.length gc) (.slice am y.M.length mc), st iv bs] W fun e w' => ∃ v, e = .returned (.tuple #[v, .int .i64 0]) ∧ PcV w' W.heap.size v d ∧ Below W.heap.size W w'))
    (H17e : Hid (∀ W, Below w.heap.size w W → Calls Tryz.prog 17 #[pcs d.id d.c d.r d.m d.s (.slice agp d.G.length gcp) (.slice amp d.M.length mcp), st 0 false] W fun e w' => ∃ v, e = .returned (.tuple #[v, .int .i64 0]) ∧ PcV w' W.heap.size v d ∧ Below W.heap.size W w'))
    (H19 : Hid (∀ W, Below w.heap.size w W → Calls Tryz.prog 19 #[pcs d.id d.c d.r d.m d.s (.slice agp d.G.length gcp) (.slice amp d.M.length mcp), st sh bs] W fun e w' => e = .returned (.tuple #[.int .i64 y.c, .int .i64 0]) ∧ Below W.heap.size W w')) :
    Calls Tryz.prog 7 #[pcs d.id d.c d.r d.m d.s (.slice agp d.G.length gcp) (.slice amp d.M.length mcp), pv, st sh bs, st th bt] w fun e w' => e = .returned (.bool true) ∧ Below w.heap.size w w' := by
  subst hpv
  have b0 : Below w.heap.size w (((w.alloc (pcsObj d.id d.c d.r d.m d.s (.slice agp d.G.length gcp) (.slice amp d.M.length mcp))).alloc (stObj sh bs)).alloc (stObj th bt)) := (((Below.refl _ _).alloc (Nat.le_refl _) _).alloc (by simp) _).alloc (by simp; omega) _
  obtain ⟨hp0, hs0, ht0⟩ := pcs_st2 w d.id d.c d.r d.m d.s (.slice agp d.G.length gcp) (.slice amp d.M.length mcp) sh bs th bt
  go_enter Tryz.func7, Tryz.ntmps7
  go_upto_region 2 with (go_at_call 10; refine (awake_any _).mono ?_; rintro e w1 ⟨rfl, hb⟩)
  have b1 := keep_below b0 hb
  have hp := (hb.block w.heap.size (by simp; omega)).trans hp0
  have hs := (hb.block (w.heap.size + 1) (by simp <;> omega)).trans hs0
  have ht := (hb.block (w.heap.size + 2) (by simp)).trans ht0
  clear hp0 hs0 ht0 b0 hb
  obtain ⟨hp_0, hp_1, hp_2, hp_3, hp_4, hp_5, hp_6⟩ := And.intro (cell_of hp (k := 0) rfl) (And.intro (cell_of hp (k := 1) rfl) (And.intro (cell_of hp (k := 2) rfl) (And.intro (cell_of hp (k := 3) rfl) (And.intro (cell_of hp (k := 4) rfl) (And.intro (cell_of hp (k := 5) rfl) (cell_of hp (k := 6) rfl))))))
  go_wp2_with fail
  refine (H35.out _ b1).mono ?_
  rintro e w2 ⟨rfl, hb⟩
  clear hp_0 hp_1 hp_2 hp_3 hp_4 hp_5 hp_6
  replace b1 := keep_below b1 hb
  replace hp := (hb.block _ (Array.getElem?_eq_some_iff.1 hp).1).trans hp
  replace hs := (hb.block _ (Array.getElem?_eq_some_iff.1 hs).1).trans hs
  replace ht := (hb.block _ (Array.getElem?_eq_some_iff.1 ht).1).trans ht
  clear hb
  obtain ⟨hs_0, hs_1⟩ := And.intro (cell_of hs (k := 0) rfl) (cell_of hs (k := 1) rfl)
  go_wp2_with fail
  refine (H29.out _ b1).mono ?_
  rintro e w3 ⟨rfl, hb⟩
  clear hs_0 hs_1
  replace b1 := keep_below b1 hb
  replace hp := (hb.block _ (Array.getElem?_eq_some_iff.1 hp).1).trans hp
  replace hs := (hb.block _ (Array.getElem?_eq_some_iff.1 hs).1).trans hs
  replace ht := (hb.block _ (Array.getElem?_eq_some_iff.1 ht).1).trans ht
  clear hb
  obtain ⟨hs_0, hs_1⟩ := And.intro (cell_of hs (k := 0) rfl) (cell_of hs (k := 1) rfl)
  go_wp2_with fail
  refine (H36s.out _).mono ?_
  rintro e w4 ⟨rfl, hb⟩
  clear hs_0 hs_1
  replace b1 := keep_below b1 hb
  replace hp := (hb.block _ (Array.getElem?_eq_some_iff.1 hp).1).trans hp
  replace hs := (hb.block _ (Array.getElem?_eq_some_iff.1 hs).1).trans hs
  replace ht := (hb.block _ (Array.getElem?_eq_some_iff.1 ht).1).trans ht
  clear hb
  obtain ⟨ht_0, ht_1⟩ := And.intro (cell_of ht (k := 0) rfl) (cell_of ht (k := 1) rfl)
  go_wp2_with fail
  refine (H36t.out _).mono ?_
  rintro e w5 ⟨rfl, hb⟩
  clear ht_0 ht_1
  replace b1 := keep_below b1 hb
  replace hp := (hb.block _ (Array.getElem?_eq_some_iff.1 hp).1).trans hp
  replace hs := (hb.block _ (Array.getElem?_eq_some_iff.1 hs).1).trans hs
  replace ht := (hb.block _ (Array.getElem?_eq_some_iff.1 ht).1).trans ht
  clear hb
  obtain ⟨hp_0, hp_1, hp_2, hp_3, hp_4, hp_5, hp_6⟩ := And.intro (cell_of hp (k := 0) rfl) (And.intro (cell_of hp (k := 1) rfl) (And.intro (cell_of hp (k := 2) rfl) (And.intro (cell_of hp (k := 3) rfl) (And.intro (cell_of hp (k := 4) rfl) (And.intro (cell_of hp (k := 5) rfl) (cell_of hp (k := 6) rfl))))))
  obtain ⟨hs_0, hs_1⟩ := And.intro (cell_of hs (k := 0) rfl) (cell_of hs (k := 1) rfl)
  go_wp2_with fail
  refine (H17a.out _ b1).mono ?_
  rintro e w6 ⟨vq, rfl, hvq, hb⟩
  clear hp_0 hp_1 hp_2 hp_3 hp_4 hp_5 hp_6 hs_0 hs_1
  obtain ⟨agq, gcq, amq, mcq, rfl, hvq⟩ := hvq.pcs
  replace hvq := hvq.mono (Nat.zero_le _)
  replace b1 := keep_below b1 hb
  replace hp := (hb.block _ (Array.getElem?_eq_some_iff.1 hp).1).trans hp
  replace hs := (hb.block _ (Array.getElem?_eq_some_iff.1 hs).1).trans hs
  replace ht := (hb.block _ (Array.getElem?_eq_some_iff.1 ht).1).trans ht
  clear hb
  have hb : Below w6.heap.size w6 (w6.alloc (.cells #[.int .i64 y.id, .int .i64 y.c, .int .i64 y.r, .int .i64 y.m, .int .i64 y.s, .slice agq y.G.length gcq, .slice amq y.M.length mcq] 25)) := (Below.refl _ _).alloc (Nat.le_refl _) _
  have hq := alloc_heap_new w6 (.cells #[.int .i64 y.id, .int .i64 y.c, .int .i64 y.r, .int .i64 y.m, .int .i64 y.s, .slice agq y.G.length gcq, .slice amq y.M.length mcq] 25)
  replace b1 := keep_below b1 hb
  replace hp := (hb.block _ (Array.getElem?_eq_some_iff.1 hp).1).trans hp
  replace hs := (hb.block _ (Array.getElem?_eq_some_iff.1 hs).1).trans hs
  replace ht := (hb.block _ (Array.getElem?_eq_some_iff.1 ht).1).trans ht
  replace hvq := hvq.keep hb
  clear hb
  obtain ⟨hs_0, hs_1⟩ := And.intro (cell_of hs (k := 0) rfl) (cell_of hs (k := 1) rfl)
  obtain ⟨ht_0, ht_1⟩ := And.intro (cell_of ht (k := 0) rfl) (cell_of ht (k := 1) rfl)
  go_wp2_with fail
  refine (H37.out _).mono ?_
  rintro e w7 ⟨rfl, hb⟩
  clear hs_0 hs_1 ht_0 ht_1
  replace b1 := keep_below b1 hb
  replace hp := (hb.block _ (Array.getElem?_eq_some_iff.1 hp).1).trans hp
  replace hs := (hb.block _ (Array.getElem?_eq_some_iff.1 hs).1).trans hs
  replace ht := (hb.block _ (Array.getElem?_eq_some_iff.1 ht).1).trans ht
  replace hq := (hb.block _ (Array.getElem?_eq_some_iff.1 hq).1).trans hq
  replace hvq := hvq.keep hb
  clear hb
  have hb : Below w7.heap.size w7 (w7.alloc (.cells #[.int .i64 u, .bool bu] 28)) := (Below.refl _ _).alloc (Nat.le_refl _) _
  have hu := alloc_heap_new w7 (.cells #[.int .i64 u, .bool bu] 28)
  replace b1 := keep_below b1 hb
  replace hp := (hb.block _ (Array.getElem?_eq_some_iff.1 hp).1).trans hp
  replace hs := (hb.block _ (Array.getElem?_eq_some_iff.1 hs).1).trans hs
  replace ht := (hb.block _ (Array.getElem?_eq_some_iff.1 ht).1).trans ht
  replace hq := (hb.block _ (Array.getElem?_eq_some_iff.1 hq).1).trans hq
  replace hvq := hvq.keep hb
  clear hb
  obtain ⟨hs_0, hs_1⟩ := And.intro (cell_of hs (k := 0) rfl) (cell_of hs (k := 1) rfl)
  go_wp2_with fail
  refine (H38.out _).mono ?_
  rintro e w8 ⟨rfl, hb⟩
  clear hs_0 hs_1
  replace b1 := keep_below b1 hb
  replace hp := (hb.block _ (Array.getElem?_eq_some_iff.1 hp).1).trans hp
  replace hs := (hb.block _ (Array.getElem?_eq_some_iff.1 hs).1).trans hs
  replace ht := (hb.block _ (Array.getElem?_eq_some_iff.1 ht).1).trans ht
  replace hq := (hb.block _ (Array.getElem?_eq_some_iff.1 hq).1).trans hq
  replace hu := (hb.block _ (Array.getElem?_eq_some_iff.1 hu).1).trans hu
  replace hvq := hvq.keep hb
  clear hb
  have hb : Below w8.heap.size w8 (w8.alloc (.cells #[.int .i64 iv, .bool bs] 28)) := (Below.refl _ _).alloc (Nat.le_refl _) _
  have hi := alloc_heap_new w8 (.cells #[.int .i64 iv, .bool bs] 28)
  replace b1 := keep_below b1 hb
  replace hp := (hb.block _ (Array.getElem?_eq_some_iff.1 hp).1).trans hp
  replace hs := (hb.block _ (Array.getElem?_eq_some_iff.1 hs).1).trans hs
  replace ht := (hb.block _ (Array.getElem?_eq_some_iff.1 ht).1).trans ht
  replace hq := (hb.block _ (Array.getElem?_eq_some_iff.1 hq).1).trans hq
  replace hu := (hb.block _ (Array.getElem?_eq_some_iff.1 hu).1).trans hu
  replace hvq := hvq.keep hb
  clear hb
  obtain ⟨hq_0, hq_1, hq_2, hq_3, hq_4, hq_5, hq_6⟩ := And.intro (cell_of hq (k := 0) rfl) (And.intro (cell_of hq (k := 1) rfl) (And.intro (cell_of hq (k := 2) rfl) (And.intro (cell_of hq (k := 3) rfl) (And.intro (cell_of hq (k := 4) rfl) (And.intro (cell_of hq (k := 5) rfl) (cell_of hq (k := 6) rfl))))))
  go_wp2_with fail
  refine (H39.out _ _ _ _ _ hvq b1).mono ?_
  rintro e w9 ⟨rfl, hb⟩
  clear hq_0 hq_1 hq_2 hq_3 hq_4 hq_5 hq_6
  replace b1 := keep_below b1 hb
  replace hp := (hb.block _ (Array.getElem?_eq_some_iff.1 hp).1).trans hp
  replace hs := (hb.block _ (Array.getElem?_eq_some_iff.1 hs).1).trans hs
  replace ht := (hb.block _ (Array.getElem?_eq_some_iff.1 ht).1).trans ht
  replace hq := (hb.block _ (Array.getElem?_eq_some_iff.1 hq).1).trans hq
  replace hu := (hb.block _ (Array.getElem?_eq_some_iff.1 hu).1).trans hu
  replace hi := (hb.block _ (Array.getElem?_eq_some_iff.1 hi).1).trans hi
  replace hvq := hvq.keep hb
  clear hb
  obtain ⟨hq_0, hq_1, hq_2, hq_3, hq_4, hq_5, hq_6⟩ := And.intro (cell_of hq (k := 0) rfl) (And.intro (cell_of hq (k := 1) rfl) (And.intro (cell_of hq (k := 2) rfl) (And.intro (cell_of hq (k := 3) rfl) (And.intro (cell_of hq (k := 4) rfl) (And.intro (cell_of hq (k := 5) rfl) (cell_of hq (k := 6) rfl))))))
  obtain ⟨ht_0, ht_1⟩ := And.intro (cell_of ht (k := 0) rfl) (cell_of ht (k := 1) rfl)
  go_wp2_with fail
  refine (H12a.out _ _ _ _ _ hvq b1).mono ?_
  rintro e w10 ⟨rfl, hb⟩
  clear hq_0 hq_1 hq_2 hq_3 hq_4 hq_5 hq_6 ht_0 ht_1
  replace b1 := keep_below b1 hb
  replace hp := (hb.block _ (Array.getElem?_eq_some_iff.1 hp).1).trans hp
  replace hs := (hb.block _ (Array.getElem?_eq_some_iff.1 hs).1).trans hs
  replace ht := (hb.block _ (Array.getElem?_eq_some_iff.1 ht).1).trans ht
  replace hq := (hb.block _ (Array.getElem?_eq_some_iff.1 hq).1).trans hq
  replace hu := (hb.block _ (Array.getElem?_eq_some_iff.1 hu).1).trans hu
  replace hi := (hb.block _ (Array.getElem?_eq_some_iff.1 hi).1).trans hi
  replace hvq := hvq.keep hb
  clear hb
  obtain ⟨hp_0, hp_1, hp_2, hp_3, hp_4, hp_5, hp_6⟩ := And.intro (cell_of hp (k := 0) rfl) (And.intro (cell_of hp (k := 1) rfl) (And.intro (cell_of hp (k := 2) rfl) (And.intro (cell_of hp (k := 3) rfl) (And.intro (cell_of hp (k := 4) rfl) (And.intro (cell_of hp (k := 5) rfl) (cell_of hp (k := 6) rfl))))))
  obtain ⟨hu_0, hu_1⟩ := And.intro (cell_of hu (k := 0) rfl) (cell_of hu (k := 1) rfl)
  go_wp2_with fail
  refine (H12b.out _ b1).mono ?_
  rintro e w11 ⟨rfl, hb⟩
  clear hp_0 hp_1 hp_2 hp_3 hp_4 hp_5 hp_6 hu_0 hu_1
  replace b1 := keep_below b1 hb
  replace hp := (hb.block _ (Array.getElem?_eq_some_iff.1 hp).1).trans hp
  replace hs := (hb.block _ (Array.getElem?_eq_some_iff.1 hs).1).trans hs
  replace ht := (hb.block _ (Array.getElem?_eq_some_iff.1 ht).1).trans ht
  replace hq := (hb.block _ (Array.getElem?_eq_some_iff.1 hq).1).trans hq
  replace hu := (hb.block _ (Array.getElem?_eq_some_iff.1 hu).1).trans hu
  replace hi := (hb.block _ (Array.getElem?_eq_some_iff.1 hi).1).trans hi
  replace hvq := hvq.keep hb
  clear hb
  obtain ⟨hq_0, hq_1, hq_2, hq_3, hq_4, hq_5, hq_6⟩ := And.intro (cell_of hq (k := 0) rfl) (And.intro (cell_of hq (k := 1) rfl) (And.intro (cell_of hq (k := 2) rfl) (And.intro (cell_of hq (k := 3) rfl) (And.intro (cell_of hq (k := 4) rfl) (And.intro (cell_of hq (k := 5) rfl) (cell_of hq (k := 6) rfl))))))
  obtain ⟨ht_0, ht_1⟩ := And.intro (cell_of ht (k := 0) rfl) (cell_of ht (k := 1) rfl)
  go_wp2_with fail
  refine (H17b.out _ _ _ _ _ hvq).mono ?_
  rintro e w12 ⟨vx, rfl, hvx, hb⟩
  clear hq_0 hq_1 hq_2 hq_3 hq_4 hq_5 hq_6 ht_0 ht_1
  obtain ⟨agx, gcx, amx, mcx, rfl, hvx⟩ := hvx.pcs
  replace hvx := hvx.mono (Nat.zero_le _)
  replace b1 := keep_below b1 hb
  replace hp := (hb.block _ (Array.getElem?_eq_some_iff.1 hp).1).trans hp
  replace hs := (hb.block _ (Array.getElem?_eq_some_iff.1 hs).1).trans hs
  replace ht := (hb.block _ (Array.getElem?_eq_some_iff.1 ht).1).trans ht
  replace hq := (hb.block _ (Array.getElem?_eq_some_iff.1 hq).1).trans hq
  replace hu := (hb.block _ (Array.getElem?_eq_some_iff.1 hu).1).trans hu
  replace hi := (hb.block _ (Array.getElem?_eq_some_iff.1 hi).1).trans hi
  replace hvq := hvq.keep hb
  clear hb
  have hb : Below w12.heap.size w12 (w12.alloc (.cells #[.int .i64 z.id, .int .i64 z.c, .int .i64 z.r, .int .i64 z.m, .int .i64 z.s, .slice agx z.G.length gcx, .slice amx z.M.length mcx] 25)) := (Below.refl _ _).alloc (Nat.le_refl _) _
  have hx := alloc_heap_new w12 (.cells #[.int .i64 z.id, .int .i64 z.c, .int .i64 z.r, .int .i64 z.m, .int .i64 z.s, .slice agx z.G.length gcx, .slice amx z.M.length mcx] 25)
  replace b1 := keep_below b1 hb
  replace hp := (hb.block _ (Array.getElem?_eq_some_iff.1 hp).1).trans hp
  replace hs := (hb.block _ (Array.getElem?_eq_some_iff.1 hs).1).trans hs
  replace ht := (hb.block _ (Array.getElem?_eq_some_iff.1 ht).1).trans ht
  replace hq := (hb.block _ (Array.getElem?_eq_some_iff.1 hq).1).trans hq
  replace hu := (hb.block _ (Array.getElem?_eq_some_iff.1 hu).1).trans hu
  replace hi := (hb.block _ (Array.getElem?_eq_some_iff.1 hi).1).trans hi
  replace hvq := hvq.keep hb
  replace hvx := hvx.keep hb
  clear hb
  obtain ⟨hp_0, hp_1, hp_2, hp_3, hp_4, hp_5, hp_6⟩ := And.intro (cell_of hp (k := 0) rfl) (And.intro (cell_of hp (k := 1) rfl) (And.intro (cell_of hp (k := 2) rfl) (And.intro (cell_of hp (k := 3) rfl) (And.intro (cell_of hp (k := 4) rfl) (And.intro (cell_of hp (k := 5) rfl) (cell_of hp (k := 6) rfl))))))
  obtain ⟨hu_0, hu_1⟩ := And.intro (cell_of hu (k := 0) rfl) (cell_of hu (k := 1) rfl)
  go_wp2_with fail
  refine (H17c.out _ b1).mono ?_
  rintro e w13 ⟨vy, rfl, hvy, hb⟩
  clear hp_0 hp_1 hp_2 hp_3 hp_4 hp_5 hp_6 hu_0 hu_1
  obtain ⟨agy, gcy, amy, mcy, rfl, hvy⟩ := hvy.pcs
  replace hvy := hvy.mono (Nat.zero_le _)
  replace b1 := keep_below b1 hb
  replace hp := (hb.block _ (Array.getElem?_eq_some_iff.1 hp).1).trans hp
  replace hs := (hb.block _ (Array.getElem?_eq_some_iff.1 hs).1).trans hs
  replace ht := (hb.block _ (Array.getElem?_eq_some_iff.1 ht).1).trans ht
  replace hq := (hb.block _ (Array.getElem?_eq_some_iff.1 hq).1).trans hq
  replace hu := (hb.block _ (Array.getElem?_eq_some_iff.1 hu).1).trans hu
  replace hi := (hb.block _ (Array.getElem?_eq_some_iff.1 hi).1).trans hi
  replace hx := (hb.block _ (Array.getElem?_eq_some_iff.1 hx).1).trans hx
  replace hvq := hvq.keep hb
  replace hvx := hvx.keep hb
  clear hb
  have hb : Below w13.heap.size w13 (w13.alloc (.cells #[.int .i64 z.id, .int .i64 z.c, .int .i64 z.r, .int .i64 z.m, .int .i64 z.s, .slice agy z.G.length gcy, .slice amy z.M.length mcy] 25)) := (Below.refl _ _).alloc (Nat.le_refl _) _
  have hy := alloc_heap_new w13 (.cells #[.int .i64 z.id, .int .i64 z.c, .int .i64 z.r, .int .i64 z.m, .int .i64 z.s, .slice agy z.G.length gcy, .slice amy z.M.length mcy] 25)
  replace b1 := keep_below b1 hb
  replace hp := (hb.block _ (Array.getElem?_eq_some_iff.1 hp).1).trans hp
  replace hs := (hb.block _ (Array.getElem?_eq_some_iff.1 hs).1).trans hs
  replace ht := (hb.block _ (Array.getElem?_eq_some_iff.1 ht).1).trans ht
  replace hq := (hb.block _ (Array.getElem?_eq_some_iff.1 hq).1).trans hq
  replace hu := (hb.block _ (Array.getElem?_eq_some_iff.1 hu).1).trans hu
  replace hi := (hb.block _ (Array.getElem?_eq_some_iff.1 hi).1).trans hi
  replace hx := (hb.block _ (Array.getElem?_eq_some_iff.1 hx).1).trans hx
  replace hvq := hvq.keep hb
  replace hvx := hvx.keep hb
  replace hvy := hvy.keep hb
  clear hb
  obtain ⟨hq_0, hq_1, hq_2, hq_3, hq_4, hq_5, hq_6⟩ := And.intro (cell_of hq (k := 0) rfl) (And.intro (cell_of hq (k := 1) rfl) (And.intro (cell_of hq (k := 2) rfl) (And.intro (cell_of hq (k := 3) rfl) (And.intro (cell_of hq (k := 4) rfl) (And.intro (cell_of hq (k := 5) rfl) (cell_of hq (k := 6) rfl))))))
  obtain ⟨hi_0, hi_1⟩ := And.intro (cell_of hi (k := 0) rfl) (cell_of hi (k := 1) rfl)
  go_wp2_with fail
  refine (H17d.out _ _ _ _ _ hvq).mono ?_
  rintro e w14 ⟨vz, rfl, hvz, hb⟩
  clear hq_0 hq_1 hq_2 hq_3 hq_4 hq_5 hq_6 hi_0 hi_1
  obtain ⟨agz, gcz, amz, mcz, rfl, hvz⟩ := hvz.pcs
  replace hvz := hvz.mono (Nat.zero_le _)
  replace b1 := keep_below b1 hb
  replace hp := (hb.block _ (Array.getElem?_eq_some_iff.1 hp).1).trans hp
  replace hs := (hb.block _ (Array.getElem?_eq_some_iff.1 hs).1).trans hs
  replace ht := (hb.block _ (Array.getElem?_eq_some_iff.1 ht).1).trans ht
  replace hq := (hb.block _ (Array.getElem?_eq_some_iff.1 hq).1).trans hq
  replace hu := (hb.block _ (Array.getElem?_eq_some_iff.1 hu).1).trans hu
  replace hi := (hb.block _ (Array.getElem?_eq_some_iff.1 hi).1).trans hi
  replace hx := (hb.block _ (Array.getElem?_eq_some_iff.1 hx).1).trans hx
  replace hy := (hb.block _ (Array.getElem?_eq_some_iff.1 hy).1).trans hy
  replace hvq := hvq.keep hb
  replace hvx := hvx.keep hb
  replace hvy := hvy.keep hb
  clear hb
  have hb : Below w14.heap.size w14 (w14.alloc (.cells #[.int .i64 d.id, .int .i64 d.c, .int .i64 d.r, .int .i64 d.m, .int .i64 d.s, .slice agz d.G.length gcz, .slice amz d.M.length mcz] 25)) := (Below.refl _ _).alloc (Nat.le_refl _) _
  have hz := alloc_heap_new w14 (.cells #[.int .i64 d.id, .int .i64 d.c, .int .i64 d.r, .int .i64 d.m, .int .i64 d.s, .slice agz d.G.length gcz, .slice amz d.M.length mcz] 25)
  replace b1 := keep_below b1 hb
  replace hp := (hb.block _ (Array.getElem?_eq_some_iff.1 hp).1).trans hp
  replace hs := (hb.block _ (Array.getElem?_eq_some_iff.1 hs).1).trans hs
  replace ht := (hb.block _ (Array.getElem?_eq_some_iff.1 ht).1).trans ht
  replace hq := (hb.block _ (Array.getElem?_eq_some_iff.1 hq).1).trans hq
  replace hu := (hb.block _ (Array.getElem?_eq_some_iff.1 hu).1).trans hu
  replace hi := (hb.block _ (Array.getElem?_eq_some_iff.1 hi).1).trans hi
  replace hx := (hb.block _ (Array.getElem?_eq_some_iff.1 hx).1).trans hx
  replace hy := (hb.block _ (Array.getElem?_eq_some_iff.1 hy).1).trans hy
  replace hvq := hvq.keep hb
  replace hvx := hvx.keep hb
  replace hvy := hvy.keep hb
  replace hvz := hvz.keep hb
  clear hb
  obtain ⟨hp_0, hp_1, hp_2, hp_3, hp_4, hp_5, hp_6⟩ := And.intro (cell_of hp (k := 0) rfl) (And.intro (cell_of hp (k := 1) rfl) (And.intro (cell_of hp (k := 2) rfl) (And.intro (cell_of hp (k := 3) rfl) (And.intro (cell_of hp (k := 4) rfl) (And.intro (cell_of hp (k := 5) rfl) (cell_of hp (k := 6) rfl))))))
  go_wp2_with fail
  refine (H17e.out _ b1).mono ?_
  rintro e w15 ⟨vw, rfl, hvw, hb⟩
  clear hp_0 hp_1 hp_2 hp_3 hp_4 hp_5 hp_6
  obtain ⟨agw, gcw, amw, mcw, rfl, hvw⟩ := hvw.pcs
  replace hvw := hvw.mono (Nat.zero_le _)
  replace b1 := keep_below b1 hb
  replace hp := (hb.block _ (Array.getElem?_eq_some_iff.1 hp).1).trans hp
  replace hs := (hb.block _ (Array.getElem?_eq_some_iff.1 hs).1).trans hs
  replace ht := (hb.block _ (Array.getElem?_eq_some_iff.1 ht).1).trans ht
  replace hq := (hb.block _ (Array.getElem?_eq_some_iff.1 hq).1).trans hq
  replace hu := (hb.block _ (Array.getElem?_eq_some_iff.1 hu).1).trans hu
  replace hi := (hb.block _ (Array.getElem?_eq_some_iff.1 hi).1).trans hi
  replace hx := (hb.block _ (Array.getElem?_eq_some_iff.1 hx).1).trans hx
  replace hy := (hb.block _ (Array.getElem?_eq_some_iff.1 hy).1).trans hy
  replace hz := (hb.block _ (Array.getElem?_eq_some_iff.1 hz).1).trans hz
  replace hvq := hvq.keep hb
  replace hvx := hvx.keep hb
  replace hvy := hvy.keep hb
  replace hvz := hvz.keep hb
  clear hb
  have hb : Below w15.heap.size w15 (w15.alloc (.cells #[.int .i64 d.id, .int .i64 d.c, .int .i64 d.r, .int .i64 d.m, .int .i64 d.s, .slice agw d.G.length gcw, .slice amw d.M.length mcw] 25)) := (Below.refl _ _).alloc (Nat.le_refl _) _
  have hw := alloc_heap_new w15 (.cells #[.int .i64 d.id, .int .i64 d.c, .int .i64 d.r, .int .i64 d.m, .int .i64 d.s, .slice agw d.G.length gcw, .slice amw d.M.length mcw] 25)
  replace b1 := keep_below b1 hb
  replace hp := (hb.block _ (Array.getElem?_eq_some_iff.1 hp).1).trans hp
  replace hs := (hb.block _ (Array.getElem?_eq_some_iff.1 hs).1).trans hs
  replace ht := (hb.block _ (Array.getElem?_eq_some_iff.1 ht).1).trans ht
  replace hq := (hb.block _ (Array.getElem?_eq_some_iff.1 hq).1).trans hq
  replace hu := (hb.block _ (Array.getElem?_eq_some_iff.1 hu).1).trans hu
  replace hi := (hb.block _ (Array.getElem?_eq_some_iff.1 hi).1).trans hi
  replace hx := (hb.block _ (Array.getElem?_eq_some_iff.1 hx).1).trans hx
  replace hy := (hb.block _ (Array.getElem?_eq_some_iff.1 hy).1).trans hy
  replace hz := (hb.block _ (Array.getElem?_eq_some_iff.1 hz).1).trans hz
  replace hvq := hvq.keep hb
  replace hvx := hvx.keep hb
  replace hvy := hvy.keep hb
  replace hvz := hvz.keep hb
  replace hvw := hvw.keep hb
  clear hb
  obtain ⟨hp_0, hp_1, hp_2, hp_3, hp_4, hp_5, hp_6⟩ := And.intro (cell_of hp (k := 0) rfl) (And.intro (cell_of hp (k := 1) rfl) (And.intro (cell_of hp (k := 2) rfl) (And.intro (cell_of hp (k := 3) rfl) (And.intro (cell_of hp (k := 4) rfl) (And.intro (cell_of hp (k := 5) rfl) (cell_of hp (k := 6) rfl))))))
  obtain ⟨hs_0, hs_1⟩ := And.intro (cell_of hs (k := 0) rfl) (cell_of hs (k := 1) rfl)
  go_wp2_with fail
  refine (H19.out _ b1).mono ?_
  rintro e w16 ⟨rfl, hb⟩
  clear hp_0 hp_1 hp_2 hp_3 hp_4 hp_5 hp_6 hs_0 hs_1
  replace b1 := keep_below b1 hb
  replace hp := (hb.block _ (Array.getElem?_eq_some_iff.1 hp).1).trans hp
  replace hs := (hb.block _ (Array.getElem?_eq_some_iff.1 hs).1).trans hs
  replace ht := (hb.block _ (Array.getElem?_eq_some_iff.1 ht).1).trans ht
  replace hq := (hb.block _ (Array.getElem?_eq_some_iff.1 hq).1).trans hq
  replace hu := (hb.block _ (Array.getElem?_eq_some_iff.1 hu).1).trans hu
  replace hi := (hb.block _ (Array.getElem?_eq_some_iff.1 hi).1).trans hi
  replace hx := (hb.block _ (Array.getElem?_eq_some_iff.1 hx).1).trans hx
  replace hy := (hb.block _ (Array.getElem?_eq_some_iff.1 hy).1).trans hy
  replace hz := (hb.block _ (Array.getElem?_eq_some_iff.1 hz).1).trans hz
  replace hw := (hb.block _ (Array.getElem?_eq_some_iff.1 hw).1).trans hw
  replace hvq := hvq.keep hb
  replace hvx := hvx.keep hb
  replace hvy := hvy.keep hb
  replace hvz := hvz.keep hb
  replace hvw := hvw.keep hb
  clear hb
  obtain ⟨hx_0, hx_1, hx_2, hx_3, hx_4, hx_5, hx_6⟩ := And.intro (cell_of hx (k := 0) rfl) (And.intro (cell_of hx (k := 1) rfl) (And.intro (cell_of hx (k := 2) rfl) (And.intro (cell_of hx (k := 3) rfl) (And.intro (cell_of hx (k := 4) rfl) (And.intro (cell_of hx (k := 5) rfl) (cell_of hx (k := 6) rfl))))))
  obtain ⟨hy_0, hy_1, hy_2, hy_3, hy_4, hy_5, hy_6⟩ := And.intro (cell_of hy (k := 0) rfl) (And.intro (cell_of hy (k := 1) rfl) (And.intro (cell_of hy (k := 2) rfl) (And.intro (cell_of hy (k := 3) rfl) (And.intro (cell_of hy (k := 4) rfl) (And.intro (cell_of hy (k := 5) rfl) (cell_of hy (k := 6) rfl))))))
  go_wp2_with fail
  refine (samePiece_any _ hvx hvy hzG hzM).mono ?_
  rintro e w17 ⟨rfl, hb⟩
  clear hx_0 hx_1 hx_2 hx_3 hx_4 hx_5 hx_6 hy_0 hy_1 hy_2 hy_3 hy_4 hy_5 hy_6
  replace b1 := keep_below b1 hb
  replace hp := (hb.block _ (Array.getElem?_eq_some_iff.1 hp).1).trans hp
  replace hs := (hb.block _ (Array.getElem?_eq_some_iff.1 hs).1).trans hs
  replace ht := (hb.block _ (Array.getElem?_eq_some_iff.1 ht).1).trans ht
  replace hq := (hb.block _ (Array.getElem?_eq_some_iff.1 hq).1).trans hq
  replace hu := (hb.block _ (Array.getElem?_eq_some_iff.1 hu).1).trans hu
  replace hi := (hb.block _ (Array.getElem?_eq_some_iff.1 hi).1).trans hi
  replace hx := (hb.block _ (Array.getElem?_eq_some_iff.1 hx).1).trans hx
  replace hy := (hb.block _ (Array.getElem?_eq_some_iff.1 hy).1).trans hy
  replace hz := (hb.block _ (Array.getElem?_eq_some_iff.1 hz).1).trans hz
  replace hw := (hb.block _ (Array.getElem?_eq_some_iff.1 hw).1).trans hw
  replace hvq := hvq.keep hb
  replace hvx := hvx.keep hb
  replace hvy := hvy.keep hb
  replace hvz := hvz.keep hb
  replace hvw := hvw.keep hb
  clear hb
  obtain ⟨hz_0, hz_1, hz_2, hz_3, hz_4, hz_5, hz_6⟩ := And.intro (cell_of hz (k := 0) rfl) (And.intro (cell_of hz (k := 1) rfl) (And.intro (cell_of hz (k := 2) rfl) (And.intro (cell_of hz (k := 3) rfl) (And.intro (cell_of hz (k := 4) rfl) (And.intro (cell_of hz (k := 5) rfl) (cell_of hz (k := 6) rfl))))))
  obtain ⟨hp_0, hp_1, hp_2, hp_3, hp_4, hp_5, hp_6⟩ := And.intro (cell_of hp (k := 0) rfl) (And.intro (cell_of hp (k := 1) rfl) (And.intro (cell_of hp (k := 2) rfl) (And.intro (cell_of hp (k := 3) rfl) (And.intro (cell_of hp (k := 4) rfl) (And.intro (cell_of hp (k := 5) rfl) (cell_of hp (k := 6) rfl))))))
  go_wp2_with fail
  refine (samePiece_any _ hvz (HP.out.keep b1) hdG hdM).mono ?_
  rintro e w18 ⟨rfl, hb⟩
  clear hz_0 hz_1 hz_2 hz_3 hz_4 hz_5 hz_6 hp_0 hp_1 hp_2 hp_3 hp_4 hp_5 hp_6
  replace b1 := keep_below b1 hb
  replace hp := (hb.block _ (Array.getElem?_eq_some_iff.1 hp).1).trans hp
  replace hs := (hb.block _ (Array.getElem?_eq_some_iff.1 hs).1).trans hs
  replace ht := (hb.block _ (Array.getElem?_eq_some_iff.1 ht).1).trans ht
  replace hq := (hb.block _ (Array.getElem?_eq_some_iff.1 hq).1).trans hq
  replace hu := (hb.block _ (Array.getElem?_eq_some_iff.1 hu).1).trans hu
  replace hi := (hb.block _ (Array.getElem?_eq_some_iff.1 hi).1).trans hi
  replace hx := (hb.block _ (Array.getElem?_eq_some_iff.1 hx).1).trans hx
  replace hy := (hb.block _ (Array.getElem?_eq_some_iff.1 hy).1).trans hy
  replace hz := (hb.block _ (Array.getElem?_eq_some_iff.1 hz).1).trans hz
  replace hw := (hb.block _ (Array.getElem?_eq_some_iff.1 hw).1).trans hw
  replace hvq := hvq.keep hb
  replace hvx := hvx.keep hb
  replace hvy := hvy.keep hb
  replace hvz := hvz.keep hb
  replace hvw := hvw.keep hb
  clear hb
  obtain ⟨hw_0, hw_1, hw_2, hw_3, hw_4, hw_5, hw_6⟩ := And.intro (cell_of hw (k := 0) rfl) (And.intro (cell_of hw (k := 1) rfl) (And.intro (cell_of hw (k := 2) rfl) (And.intro (cell_of hw (k := 3) rfl) (And.intro (cell_of hw (k := 4) rfl) (And.intro (cell_of hw (k := 5) rfl) (cell_of hw (k := 6) rfl))))))
  obtain ⟨hp_0, hp_1, hp_2, hp_3, hp_4, hp_5, hp_6⟩ := And.intro (cell_of hp (k := 0) rfl) (And.intro (cell_of hp (k := 1) rfl) (And.intro (cell_of hp (k := 2) rfl) (And.intro (cell_of hp (k := 3) rfl) (And.intro (cell_of hp (k := 4) rfl) (And.intro (cell_of hp (k := 5) rfl) (cell_of hp (k := 6) rfl))))))
  go_wp2_with fail
  refine (samePiece_any _ hvw (HP.out.keep b1) hdG hdM).mono ?_
  rintro e w19 ⟨rfl, hb⟩
  clear hw_0 hw_1 hw_2 hw_3 hw_4 hw_5 hw_6 hp_0 hp_1 hp_2 hp_3 hp_4 hp_5 hp_6
  replace b1 := keep_below b1 hb
  replace hp := (hb.block _ (Array.getElem?_eq_some_iff.1 hp).1).trans hp
  replace hs := (hb.block _ (Array.getElem?_eq_some_iff.1 hs).1).trans hs
  replace ht := (hb.block _ (Array.getElem?_eq_some_iff.1 ht).1).trans ht
  replace hq := (hb.block _ (Array.getElem?_eq_some_iff.1 hq).1).trans hq
  replace hu := (hb.block _ (Array.getElem?_eq_some_iff.1 hu).1).trans hu
  replace hi := (hb.block _ (Array.getElem?_eq_some_iff.1 hi).1).trans hi
  replace hx := (hb.block _ (Array.getElem?_eq_some_iff.1 hx).1).trans hx
  replace hy := (hb.block _ (Array.getElem?_eq_some_iff.1 hy).1).trans hy
  replace hz := (hb.block _ (Array.getElem?_eq_some_iff.1 hz).1).trans hz
  replace hw := (hb.block _ (Array.getElem?_eq_some_iff.1 hw).1).trans hw
  replace hvq := hvq.keep hb
  replace hvx := hvx.keep hb
  replace hvy := hvy.keep hb
  replace hvz := hvz.keep hb
  replace hvw := hvw.keep hb
  clear hb
  obtain ⟨hq_0, hq_1, hq_2, hq_3, hq_4, hq_5, hq_6⟩ := And.intro (cell_of hq (k := 0) rfl) (And.intro (cell_of hq (k := 1) rfl) (And.intro (cell_of hq (k := 2) rfl) (And.intro (cell_of hq (k := 3) rfl) (And.intro (cell_of hq (k := 4) rfl) (And.intro (cell_of hq (k := 5) rfl) (cell_of hq (k := 6) rfl))))))
  go_wp2_with fail
  go_ret
  exact ⟨rfl, b1⟩

end Go.Proofs.YtcfapbccegijnaaGreat

/- Law 7 (GlassComposes), put together. -/
namespace Go.Proofs.YtcfapbccegijnaaGreat
open Go Go.RowKit Go.Proofs Go.Abs

theorem PcD.ext' {a b : PcD} (h1 : a.id = b.id) (h2 : a.c = b.c) (h3 : a.r = b.r) (h4 : a.m = b.m) (h5 : a.s = b.s) (h6 : a.G = b.G) (h7 : a.M = b.M) : a = b := by
  obtain ⟨_, _, _, _, _, _, _⟩ := a
  obtain ⟨_, _, _, _, _, _, _⟩ := b
  simp only at h1 h2 h3 h4 h5 h6 h7
  subst h1 h2 h3 h4 h5 h6 h7
  rfl

theorem ok_parts {d : PcD} (h : d.ok = true) : (3 ≤ d.G.length ∧ d.G.length ≤ 24) ∧ vGs d.G = true ∧ vMs 0 ((d.G.length : Int) - 1) d.M = true := by
  obtain ⟨h1, h2⟩ := vP_marks h
  have h3 := vGs_ok h1
  exact ⟨⟨h3.1, h3.2.1⟩, h1, h2⟩

theorem rsD_ok {d : PcD} {s : Nat} (b : Bool) (h : d.ok = true) (hs : s < d.G.length) : (rsD d s b).ok = true := by
  obtain ⟨-, hg, hm⟩ := ok_parts h
  have g2 := layL_ok d.G b hg hs
  have m2 := shM_ok (s := (s : Int)) b (by omega) (by omega) hm
  unfold PcD.ok vP rsD at *
  simp only [Bool.and_eq_true] at h ⊢
  obtain ⟨⟨⟨⟨⟨⟨i1, i2⟩, i3⟩, i4⟩, i5⟩, i6⟩, i7⟩ := h
  rw [layL_len]
  cases b
  · exact ⟨⟨⟨⟨⟨⟨i1, i2⟩, i3⟩, i4⟩, i5⟩, g2⟩, m2⟩
  · exact ⟨⟨⟨⟨⟨⟨i1, i3⟩, i2⟩, i4⟩, i5⟩, g2⟩, m2⟩

theorem rsD_len (d : PcD) (s : Nat) (b : Bool) : (rsD d s b).G.length = d.G.length := layL_len _ _ _ _

theorem rsD_rsD {d : PcD} {s t : Nat} (b c : Bool) (h : d.ok = true) (hs : s < d.G.length) (ht : t < d.G.length) : rsD (rsD d s b) t c = rsD d (ld d.G.length t c s) (b != c) := by
  obtain ⟨-, -, hm⟩ := ok_parts h
  refine PcD.ext' rfl ?_ ?_ rfl rfl ?_ ?_
  · cases b <;> cases c <;> rfl
  · cases b <;> cases c <;> rfl
  · show layL (layL d.G d.G.length s b) (layL d.G d.G.length s b).length t c = layL d.G d.G.length (ld d.G.length t c s) (b != c)
    rw [layL_len]
    exact layL_layL d.G b c hs ht
  · show shM ((layL d.G d.G.length s b).length : Nat) t c (shM d.G.length s b d.M) = shM d.G.length (ld d.G.length t c s : Nat) (b != c) d.M
    rw [layL_len, shM_shM b c d.M (by omega) (by omega) (by omega) (by omega) (vMs_range hm), ed_ld c ht hs]

theorem rsD_zero {d : PcD} (h : d.ok = true) : rsD d 0 false = d := by
  obtain ⟨-, -, hm⟩ := ok_parts h
  refine PcD.ext' rfl rfl rfl rfl rfl ?_ ?_
  · exact layL_zero d.G rfl
  · exact shM_zero (vMs_rises hm) (vMs_range hm)

theorem resD_ok {d : PcD} {sh : Int} (b : Bool) (h : d.ok = true) (hs : vset sh d.G.length = true) : resD d sh b = rsD d sh.toNat b := by
  unfold resD
  rw [if_pos (by rw [h, hs]; rfl)]

theorem vset_nat {sh : Int} {n : Nat} (h : vset sh n = true) : ((sh.toNat : Nat) : Int) = sh ∧ sh.toNat < n := by
  simp only [vset, Bool.and_eq_true, decide_eq_true_eq] at h
  omega
theorem vset_of {s n : Nat} (h3 : 3 ≤ n ∧ n ≤ 24) (h : s < n) : vset (s : Nat) (n : Nat) = true := by
  simp only [vset, Bool.and_eq_true, decide_eq_true_eq]
  omega

theorem setE_ok : setE true true = 0 := rfl

theorem composesLaw_any (d : PcD) (L : List (Int × Int)) (sh th : Int) (bs bt : Bool) (vg vm pv : Value) (w : World) (hG : SlG w vg d.G) (hM : SlM w vm d.M) (hL : SlV w pv L) :
    Calls Tryz.prog 7 #[pcs d.id d.c d.r d.m d.s vg vm, pv, st sh bs, st th bt] w fun e w' => e = .returned (.bool true) ∧ Below w.heap.size w w' := by
  obtain ⟨agp, gcp, rfl, -⟩ := _root_.id hG
  obtain ⟨amp, mcp, rfl, -⟩ := _root_.id hM
  obtain ⟨la, lcap, rfl, -⟩ := _root_.id hL
  have K35 := Lib.hid (fun W (hW : Below w.heap.size w W) => refValidPiece_any d.id d.c d.r d.m d.s _ _ d.G d.M W (hG.keep hW) (hM.keep hW))
  have K29 := Lib.hid (fun W (hW : Below w.heap.size w W) => refOut_sl (hL.keep hW))
  have K36s := Lib.hid (fun W => refSetting_any sh d.G.length bs W)
  have K36t := Lib.hid (fun W => refSetting_any th d.G.length bt W)
  by_cases hall : (d.ok && vOut L && vset sh d.G.length && vset th d.G.length) = true
  · simp only [Bool.and_eq_true] at hall
    obtain ⟨⟨⟨ho, hv⟩, hs⟩, ht⟩ := hall
    obtain ⟨es, ls⟩ := vset_nat hs
    obtain ⟨et, lt⟩ := vset_nat ht
    obtain ⟨h3, hgs, hms⟩ := ok_parts ho
    obtain ⟨s, rfl⟩ : ∃ s : Nat, sh = s := ⟨sh.toNat, es.symm⟩
    obtain ⟨t, rfl⟩ : ∃ t : Nat, th = t := ⟨th.toNat, et.symm⟩
    rw [Int.toNat_natCast] at ls lt
    have hy := rsD_ok bs ho ls
    have hyl := rsD_len d s bs
    have hu := ld_lt bt lt ls
    have hvu := vset_of h3 hu
    have eu : Plain.ed (t : Int) bt (d.G.length : Nat) (s : Nat) = (ld d.G.length t bt s : Nat) := ed_ld bt lt ls
    have hi : ∃ i : Nat, Plain.inv (s : Int) bs (d.G.length : Nat) = i ∧ i < d.G.length := by
      have := Plain.inv_range (s := (s : Int)) (n := (d.G.length : Nat)) (b := bs) (by omega) (by omega)
      exact ⟨(Plain.inv (s : Int) bs (d.G.length : Nat)).toNat, by omega, by omega⟩
    obtain ⟨i, ei, li⟩ := hi
    have hvi := vset_of h3 li
    have hback : rsD (rsD d s bs) i bs = d := by
      rw [rsD_rsD bs bs ho ls li]
      have := Plain.inv_ed (s := (s : Int)) (n := (d.G.length : Nat)) (b := bs) (by omega) (by omega)
      rw [ei, ed_ld bs li ls] at this
      rw [show ld d.G.length i bs s = 0 by omega, bne_self_eq_false]
      exact rsD_zero ho
    have hfit : fitsV d.ok d.G L (ld d.G.length t bt s : Nat) (bs != bt) = fitsV (rsD d s bs).ok (rsD d s bs).G L (t : Int) bt := by
      unfold fitsV
      rw [ho, hy, hyl, hvu, ht, hv, Int.toNat_natCast, Int.toNat_natCast]
      by_cases hn : d.G.length = L.length
      · rw [← hn]
        rw [show fitP (rsD d s bs).G L d.G.length t bt = fitP d.G L d.G.length (ld d.G.length t bt s) (bs != bt) from fit_lay d.G L bs bt ls lt]
      · rw [decide_eq_false hn]; rfl
    have hE1 : fitsE d.ok d.G L (ld d.G.length t bt s : Nat) = 0 := by
      unfold fitsE
      rw [if_pos ho, if_pos ⟨hvu, hv⟩]
    have hE2 : fitsE (rsD d s bs).ok (rsD d s bs).G L (t : Int) = 0 := by
      unfold fitsE
      rw [if_pos hy, if_pos ⟨by rw [hyl]; exact ht, hv⟩]
    have hty : vset (t : Int) (rsD d s bs).G.length = true := by rw [hyl]; exact ht
    have hiy : vset (i : Int) (rsD d s bs).G.length = true := by rw [hyl]; exact hvi
    have hM32 := vMs_len hms
    have hz : (rsD (rsD d s bs) t bt).G.length = d.G.length := by rw [rsD_len, rsD_len]
    have hzm : (rsD (rsD d s bs) t bt).M.length = d.M.length := by
      show (shM _ _ _ (shM _ _ _ _)).length = _
      rw [shM_len, shM_len]
    exact composesLaw_good d (rsD d s bs) (rsD (rsD d s bs) t bt) s t (ld d.G.length t bt s : Nat) i bs bt (bs != bt) (fitsV (rsD d s bs).ok (rsD d s bs).G L (t : Int) bt) _ agp amp la gcp mcp L.length lcap w rfl (by omega) (by omega) (by omega) (by omega)
      (Lib.hid ⟨_, _, rfl, hG, hM, fun _ _ _ _ => Nat.zero_le _, fun _ _ _ _ => Nat.zero_le _⟩)
      (Lib.hid fun W hW => by have := K35.out W hW; rwa [show vP d.id d.c d.r d.m d.s d.G d.M = true from ho] at this)
      (Lib.hid fun W hW => by have := K29.out W hW; rwa [hv] at this)
      (Lib.hid fun W => by have := K36s.out W; rwa [hs] at this)
      (Lib.hid fun W => by have := K36t.out W; rwa [ht] at this)
      (Lib.hid fun W hW => by
        have := reset17_any d _ _ (s : Int) bs W (hG.keep hW) (hM.keep hW)
        rwa [resD_ok bs ho hs, ho, hs, setE_ok, Int.toNat_natCast] at this)
      (Lib.hid fun W => by
        have := compose_any (s : Int) t (d.G.length : Nat) bs bt W hs ht
        rwa [eu] at this)
      (Lib.hid fun W => by
        have := inverse_any (s : Int) (d.G.length : Nat) bs W hs
        rwa [ei] at this)
      (Lib.hid fun W ag gc am mc hP hW => by
        obtain ⟨vg, vm, e1, h1, h2, -⟩ := hP
        simp only [Value.agg.injEq, Array.mk.injEq, List.cons.injEq, and_true] at e1
        obtain ⟨-, -, -, -, -, rfl, rfl⟩ := e1
        have := validPiece_any (rsD d s bs).id (rsD d s bs).c (rsD d s bs).r (rsD d s bs).m (rsD d s bs).s _ _ (rsD d s bs).G (rsD d s bs).M W h1 h2
        rwa [show vP (rsD d s bs).id (rsD d s bs).c (rsD d s bs).r (rsD d s bs).m (rsD d s bs).s (rsD d s bs).G (rsD d s bs).M = true from hy] at this)
      (Lib.hid fun W ag gc am mc hP hW => by
        obtain ⟨vg, vm, e1, h1, h2, -⟩ := hP
        simp only [Value.agg.injEq, Array.mk.injEq, List.cons.injEq, and_true] at e1
        obtain ⟨-, -, -, -, -, rfl, rfl⟩ := e1
        have := fits12_any (rsD d s bs).id (rsD d s bs).c (rsD d s bs).r (rsD d s bs).m (rsD d s bs).s _ _ _ (rsD d s bs).G (rsD d s bs).M L (t : Int) bt W h1 h2 (hL.keep hW)
        rwa [show vP (rsD d s bs).id (rsD d s bs).c (rsD d s bs).r (rsD d s bs).m (rsD d s bs).s (rsD d s bs).G (rsD d s bs).M = (rsD d s bs).ok from rfl, hE2] at this)
      (Lib.hid fun W hW => by
        have := fits12_any d.id d.c d.r d.m d.s _ _ _ d.G d.M L (ld d.G.length t bt s : Nat) (bs != bt) W (hG.keep hW) (hM.keep hW) (hL.keep hW)
        rwa [show vP d.id d.c d.r d.m d.s d.G d.M = d.ok from rfl, hE1, hfit] at this)
      (Lib.hid fun W ag gc am mc hP => by
        obtain ⟨vg, vm, e1, h1, h2, -⟩ := hP
        simp only [Value.agg.injEq, Array.mk.injEq, List.cons.injEq, and_true] at e1
        obtain ⟨-, -, -, -, -, rfl, rfl⟩ := e1
        have := reset17_any (rsD d s bs) _ _ (t : Int) bt W h1 h2
        rwa [resD_ok bt hy hty, hy, hty, setE_ok, Int.toNat_natCast] at this)
      (Lib.hid fun W hW => by
        have := reset17_any d _ _ (ld d.G.length t bt s : Nat) (bs != bt) W (hG.keep hW) (hM.keep hW)
        rwa [resD_ok _ ho hvu, ho, hvu, setE_ok, Int.toNat_natCast, ← rsD_rsD bs bt ho ls lt] at this)
      (Lib.hid fun W ag gc am mc hP => by
        obtain ⟨vg, vm, e1, h1, h2, -⟩ := hP
        simp only [Value.agg.injEq, Array.mk.injEq, List.cons.injEq, and_true] at e1
        obtain ⟨-, -, -, -, -, rfl, rfl⟩ := e1
        have := reset17_any (rsD d s bs) _ _ (i : Int) bs W h1 h2
        rwa [resD_ok bs hy hiy, hy, hiy, setE_ok, Int.toNat_natCast, hback] at this)
      (Lib.hid fun W hW => by
        have h0 : vset (0 : Int) d.G.length = true := vset_of h3 (s := 0) (by omega)
        have := reset17_any d _ _ 0 false W (hG.keep hW) (hM.keep hW)
        rwa [resD_ok _ ho h0, ho, h0, setE_ok, show (0 : Int).toNat = 0 from rfl, rsD_zero ho] at this)
      (Lib.hid fun W hW => by
        have := shows19_D d _ _ (s : Int) bs W (hG.keep hW) (hM.keep hW)
        rwa [resD_ok bs ho hs, ho, hs, setE_ok, Int.toNat_natCast] at this)
  · exact composesLaw_bad d sh th bs bt _ agp amp la gcp mcp L.length lcap w d.ok (vOut L) (vset sh d.G.length) (vset th d.G.length) rfl (by simpa using hall) K35 K29 K36s K36t

end Go.Proofs.YtcfapbccegijnaaGreat
