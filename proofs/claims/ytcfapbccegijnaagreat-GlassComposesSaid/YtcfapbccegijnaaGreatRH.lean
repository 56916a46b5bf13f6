/- The abstract machine, part RH. -/
import Derived.Test.YtcfapbccegijnaaGreatRG
import Derived.Test.YtcfapbccegijnaaGreatLK
import Derived.Test.YtcfapbccegijnaaGreatH0
import Derived.Test.YtcfapbccegijnaaGreatVQ
/- Walks: SamePiece of equal pieces; Shows and Marks of the program, told as the reference's. -/
namespace Go.Proofs.YtcfapbccegijnaaGreat
open Go Go.RowKit Go.Proofs Go.Abs

theorem run_mk_neq (a b c : Int) (w : World) : (binOp .neq 78 (mk a b c) (mk a b c)).run Tryz.prog w = .ok (.bool false) w := by
  go_simp

set_option maxRecDepth 100000 in
set_option maxHeartbeats 2000000 in
theorem sameMarks_any {M : List M3} {v1 v2 : Value} (w : World) (h1 : SlM w v1 M) (h2 : SlM w v2 M) (hl : M.length ≤ 1000) :
    Calls Tryz.prog 24 #[v1, v2] w fun e w' => e = .returned (.bool true) ∧ Below w.heap.size w w' := by
  obtain ⟨a1, c1, rfl, hl1, H1⟩ := h1
  obtain ⟨a2, c2, rfl, hl2, H2⟩ := h2
  have HC1 := Lib.hid H1
  have HC2 := Lib.hid H2
  clear H1 H2
  go_enter Tryz.func24, Tryz.ntmps24
  go_wp2_with fail
  go_loopw [5] (fun i wr => ∃ k : Nat, k ≤ M.length ∧ i = .int .i64 k ∧ Below w.heap.size w wr) (fun i _ => M.length - (intOf i).toNat)
  case atStart => exact ⟨0, Nat.zero_le _, rfl, Below.refl _ _⟩
  case round =>
    obtain ⟨k, hk, rfl, hbel⟩ := hrel
    by_cases hlt : k < M.length
    · have j1 : (k : Int) < (M.length : Int) := by omega
      obtain ⟨b1, o1, rfl, x0, x1, x2⟩ := HC1.out k hlt
      obtain ⟨b2, o2, rfl, y0, y1, y2⟩ := HC2.out k hlt
      have hq := run_mk_neq
      generalize (mq M k).x = a at x0 y0
      generalize (mq M k).y = b at x1 y1
      generalize (mq M k).z = c at x2 y2
      have G0 := grow_cell (keep_cell hbel x0)
      have G1 := grow_cell (keep_cell hbel x1)
      have G2 := grow_cell (keep_cell hbel x2)
      have G5 := grow_cell (keep_cell hbel y0)
      have G6 := grow_cell (keep_cell hbel y1)
      have G7 := grow_cell (keep_cell hbel y2)
      clear x0 x1 x2 y0 y1 y2
      go_wp2_with fail
      refine wp_region_grow (by kernel_rfl) (by kernel_rfl) ?_
      repeat (go_big_quiet_step (fail))
      refine wpQuiet_nil ?_
      rintro w4 ⟨z, hz⟩
      have hb : Below wr.heap.size wr w4 := by rw [hz]; exact z.b
      clear hz z G0 G1 G2 G5 G6 G7 hq
      have bel4 := keep_below hbel hb
      clear hb
      go_wp2
      exact ⟨⟨k + 1, by omega, by simp, bel4⟩, by simp [intOf]; omega⟩
    · obtain rfl : k = M.length := by omega
      go_wp2
      go_ret
      exact ⟨rfl, hbel⟩

set_option maxRecDepth 100000 in
set_option maxHeartbeats 4000000 in
theorem samePiece_walk (id c r m s : Int) (ag am ag' am' : Option Addr) (n gc gc' l mc mc' : Nat) (w : World)
    (CG : Hid (∀ W, Below w.heap.size w W → Calls Tryz.prog 33 #[.slice ag n gc, .slice ag' n gc'] W fun e w' => e = .returned (.bool true) ∧ Below W.heap.size W w'))
    (CM : Hid (∀ W, Below w.heap.size w W → Calls Tryz.prog 24 #[.slice am l mc, .slice am' l mc'] W fun e w' => e = .returned (.bool true) ∧ Below W.heap.size W w')) :
    Calls Tryz.prog 23 #[pcs id c r m s (.slice ag n gc) (.slice am l mc), pcs id c r m s (.slice ag' n gc') (.slice am' l mc')] w fun e w' => e = .returned (.bool true) ∧ Below w.heap.size w w' := by
  have hp : ((w.alloc (pcsObj id c r m s (.slice ag n gc) (.slice am l mc))).alloc (pcsObj id c r m s (.slice ag' n gc') (.slice am' l mc'))).heap[w.heap.size]? = some (pcsObj id c r m s (.slice ag n gc) (.slice am l mc)) := (alloc_heap_old _ _ (by simp)).trans (alloc_heap_new _ _)
  have hq : ((w.alloc (pcsObj id c r m s (.slice ag n gc) (.slice am l mc))).alloc (pcsObj id c r m s (.slice ag' n gc') (.slice am' l mc'))).heap[w.heap.size + 1]? = some (pcsObj id c r m s (.slice ag' n gc') (.slice am' l mc')) := by
    have := alloc_heap_new (w.alloc (pcsObj id c r m s (.slice ag n gc) (.slice am l mc))) (pcsObj id c r m s (.slice ag' n gc') (.slice am' l mc')); rwa [World.size_alloc] at this
  have b0 : Below w.heap.size w ((w.alloc (pcsObj id c r m s (.slice ag n gc) (.slice am l mc))).alloc (pcsObj id c r m s (.slice ag' n gc') (.slice am' l mc'))) := ((Below.refl _ _).alloc (Nat.le_refl _) _).alloc (by simp) _
  obtain ⟨W0, hW0⟩ : ∃ W0, (w.alloc (pcsObj id c r m s (.slice ag n gc) (.slice am l mc))).alloc (pcsObj id c r m s (.slice ag' n gc') (.slice am' l mc')) = W0 := ⟨_, rfl⟩
  rw [hW0] at hp hq b0
  obtain ⟨p0, p1, p2, p3, p4, p5, p6⟩ := And.intro (cell_of hp (k := 0) rfl) (And.intro (cell_of hp (k := 1) rfl) (And.intro (cell_of hp (k := 2) rfl) (And.intro (cell_of hp (k := 3) rfl) (And.intro (cell_of hp (k := 4) rfl) (And.intro (cell_of hp (k := 5) rfl) (cell_of hp (k := 6) rfl))))))
  obtain ⟨q0, q1, q2, q3, q4, q5, q6⟩ := And.intro (cell_of hq (k := 0) rfl) (And.intro (cell_of hq (k := 1) rfl) (And.intro (cell_of hq (k := 2) rfl) (And.intro (cell_of hq (k := 3) rfl) (And.intro (cell_of hq (k := 4) rfl) (And.intro (cell_of hq (k := 5) rfl) (cell_of hq (k := 6) rfl))))))
  clear hp hq
  go_enter Tryz.func23, Tryz.ntmps23
  go_wp2_with (first
    | (go_at_call 33; with_reducible refine (CG.out _ b0).mono ?_; rintro e w1 ⟨rfl, hb⟩
       have b1 := keep_below b0 hb
       replace p6 := keep_cell hb p6
       replace q6 := keep_cell hb q6)
    | (go_at_call 24; with_reducible refine (CM.out _ b1).mono ?_; rintro e w2 ⟨rfl, hb2⟩))
  go_ret
  exact ⟨rfl, keep_below b1 hb2⟩

theorem samePiece_any {d : PcD} {v1 v2 : Value} {B1 B2 : Nat} (w : World) (h1 : PcV w B1 v1 d) (h2 : PcV w B2 v2 d) (hg : d.G.length ≤ 1000) (hm : d.M.length ≤ 1000) :
    Calls Tryz.prog 23 #[v1, v2] w fun e w' => e = .returned (.bool true) ∧ Below w.heap.size w w' := by
  obtain ⟨ag, gc, am, mc, rfl, g1, m1, -⟩ := h1.shape
  obtain ⟨ag', gc', am', mc', rfl, g2, m2, -⟩ := h2.shape
  exact samePiece_walk d.id d.c d.r d.m d.s ag am ag' am' d.G.length gc gc' d.M.length mc mc' w
    (Lib.hid fun W hW => sameGauges_any W (g1.keep hW) (g2.keep hW) hg)
    (Lib.hid fun W hW => sameMarks_any W (m1.keep hW) (m2.keep hW) hm)

theorem resD_c (d : PcD) (sh : Int) (b : Bool) : (resD d sh b).c = if d.ok && vset sh d.G.length then (if b then d.r else d.c) else 0 := by
  unfold resD
  split <;> rfl

theorem shows19_D (d : PcD) (vg vm : Value) (sh : Int) (b : Bool) (w : World) (hG : SlG w vg d.G) (hM : SlM w vm d.M) :
    Calls Tryz.prog 19 #[pcs d.id d.c d.r d.m d.s vg vm, st sh b] w fun e w' => e = .returned (.tuple #[.int .i64 (resD d sh b).c, .int .i64 (setE d.ok (vset sh d.G.length))]) ∧ Below w.heap.size w w' := by
  rw [resD_c]
  exact shows19_any d.id d.c d.r d.m d.s vg vm d.G d.M sh b w hG hM

theorem marks21_D (d : PcD) (vg vm : Value) (sh : Int) (b : Bool) (w : World) (hG : SlG w vg d.G) (hM : SlM w vm d.M) :
    Calls Tryz.prog 21 #[pcs d.id d.c d.r d.m d.s vg vm, st sh b] w fun e w' => ∃ v, e = .returned (.tuple #[v, .int .i64 (setE d.ok (vset sh d.G.length))]) ∧ SlM w' v (resD d sh b).M ∧ Below w.heap.size w w' := by
  refine (marks21_any d.id d.c d.r d.m d.s vg vm d.G d.M sh b w hG hM).mono ?_
  rintro e w' ⟨v, rfl, h, hb⟩
  refine ⟨v, rfl, ?_, hb⟩
  unfold MarS at h
  unfold resD
  have e1 : vP d.id d.c d.r d.m d.s d.G d.M = d.ok := rfl
  rw [e1] at h
  by_cases hc : (d.ok && vset sh d.G.length) = true
  · rw [if_pos hc] at h ⊢
    have hs : (sh.toNat : Int) = sh := by
      have := hc
      rw [Bool.and_eq_true] at this
      have hh := this.2
      simp only [vset, Bool.and_eq_true, decide_eq_true_eq] at hh
      omega
    show SlM w' v (shM d.G.length sh.toNat b d.M)
    rw [hs]
    exact h
  · rw [if_neg hc] at h ⊢
    subst h
    exact slm_nil _

theorem resD_len (d : PcD) (sh : Int) (b : Bool) : (resD d sh b).G.length ≤ 1000 ∧ (resD d sh b).M.length ≤ 1000 := by
  unfold resD
  split
  · rename_i h
    rw [Bool.and_eq_true] at h
    obtain ⟨h1, h2⟩ := vP_marks h.1
    have h3 := (vGs_ok h1).2.1
    have h4 := vMs_len h2
    show (layL _ _ _ _).length ≤ 1000 ∧ (shM _ _ _ _).length ≤ 1000
    rw [layL_len, shM_len]
    omega
  · simp [zeroD]

end Go.Proofs.YtcfapbccegijnaaGreat

/- Walks: law 4 (GlassResets). -/
namespace Go.Proofs.YtcfapbccegijnaaGreat
open Go Go.RowKit Go.Proofs Go.Abs

set_option maxRecDepth 100000 in
set_option maxHeartbeats 16000000 in
theorem resetsLaw_walk (id c r m s sh : Int) (b : Bool) (ag am : Option Addr) (n gcap l mcap : Nat) (w : World) (fw : Bool) (y : PcD) (E : Int) (hyg : y.G.length ≤ 1000) (hym : y.M.length ≤ 1000)
    (HF : Hid (∀ W, Below w.heap.size w W → Calls Tryz.prog 11 #[pcs id c r m s (.slice ag n gcap) (.slice am l mcap), .slice none 0 0] W fun e w' => e = .returned (.bool fw) ∧ Below W.heap.size W w'))
    (H17 : Hid (∀ W, Below w.heap.size w W → Calls Tryz.prog 17 #[pcs id c r m s (.slice ag n gcap) (.slice am l mcap), st sh b] W fun e w' => ∃ v, e = .returned (.tuple #[v, .int .i64 E]) ∧ PcV w' W.heap.size v y ∧ Below W.heap.size W w'))
    (H18 : Hid (∀ W, Below w.heap.size w W → Calls Tryz.prog 18 #[pcs id c r m s (.slice ag n gcap) (.slice am l mcap), st sh b] W fun e w' => ∃ v, e = .returned (.tuple #[v, .int .i64 E]) ∧ PcV w' W.heap.size v y ∧ Below W.heap.size W w'))
    (H19 : Hid (∀ W, Below w.heap.size w W → Calls Tryz.prog 19 #[pcs id c r m s (.slice ag n gcap) (.slice am l mcap), st sh b] W fun e w' => e = .returned (.tuple #[.int .i64 y.c, .int .i64 E]) ∧ Below W.heap.size W w'))
    (H20 : Hid (∀ W, Below w.heap.size w W → Calls Tryz.prog 20 #[pcs id c r m s (.slice ag n gcap) (.slice am l mcap), st sh b] W fun e w' => e = .returned (.tuple #[.int .i64 y.c, .int .i64 E]) ∧ Below W.heap.size W w'))
    (H21 : Hid (∀ W, Below w.heap.size w W → Calls Tryz.prog 21 #[pcs id c r m s (.slice ag n gcap) (.slice am l mcap), st sh b] W fun e w' => ∃ v, e = .returned (.tuple #[v, .int .i64 E]) ∧ SlM w' v y.M ∧ Below W.heap.size W w'))
    (H22 : Hid (∀ W, Below w.heap.size w W → Calls Tryz.prog 22 #[pcs id c r m s (.slice ag n gcap) (.slice am l mcap), st sh b] W fun e w' => ∃ v, e = .returned (.tuple #[v, .int .i64 E]) ∧ SlM w' v y.M ∧ Below W.heap.size W w')) :
    Calls Tryz.prog 4 #[pcs id c r m s (.slice ag n gcap) (.slice am l mcap), st sh b] w fun e w' => e = .returned (.bool true) ∧ Below w.heap.size w w' := by
  have b0 : Below w.heap.size w ((w.alloc (pcsObj id c r m s (.slice ag n gcap) (.slice am l mcap))).alloc (stObj sh b)) := ((Below.refl _ _).alloc (Nat.le_refl _) _).alloc (by simp) _
  obtain ⟨hp0, hq0⟩ := pcs_st w id c r m s (.slice ag n gcap) (.slice am l mcap) sh b
  go_enter Tryz.func4, Tryz.ntmps4
  go_upto_region 2 with (go_at_call 10; refine (awake_any _).mono ?_; rintro e w1 ⟨rfl, hb⟩)
  have b1 := keep_below b0 hb
  have hp := (hb.block w.heap.size (by simp; omega)).trans hp0
  have hq := (hb.block (w.heap.size + 1) (by simp)).trans hq0
  clear hp0 hq0 b0 hb
  obtain ⟨c0, c1, c2, c3, c4, c5, c6⟩ := And.intro (cell_of hp (k := 0) rfl) (And.intro (cell_of hp (k := 1) rfl) (And.intro (cell_of hp (k := 2) rfl) (And.intro (cell_of hp (k := 3) rfl) (And.intro (cell_of hp (k := 4) rfl) (And.intro (cell_of hp (k := 5) rfl) (cell_of hp (k := 6) rfl))))))
  obtain ⟨s0, s1⟩ := And.intro (cell_of hq (k := 0) rfl) (cell_of hq (k := 1) rfl)
  cases fw
  · go_wp2_with (go_at_call 11; with_reducible refine (HF.out _ b1).mono ?_; rintro e w2 ⟨rfl, hb⟩)
    go_ret
    exact ⟨rfl, keep_below b1 hb⟩
  · go_wp2_with fail
    refine (HF.out _ b1).mono ?_
    rintro e w2 ⟨rfl, hb⟩
    clear c0 c1 c2 c3 c4 c5 c6 s0 s1
    replace b1 := keep_below b1 hb
    replace hp := (hb.block _ (Array.getElem?_eq_some_iff.1 hp).1).trans hp
    replace hq := (hb.block _ (Array.getElem?_eq_some_iff.1 hq).1).trans hq
    clear hb
    obtain ⟨c0, c1, c2, c3, c4, c5, c6⟩ := And.intro (cell_of hp (k := 0) rfl) (And.intro (cell_of hp (k := 1) rfl) (And.intro (cell_of hp (k := 2) rfl) (And.intro (cell_of hp (k := 3) rfl) (And.intro (cell_of hp (k := 4) rfl) (And.intro (cell_of hp (k := 5) rfl) (cell_of hp (k := 6) rfl))))))
    obtain ⟨s0, s1⟩ := And.intro (cell_of hq (k := 0) rfl) (cell_of hq (k := 1) rfl)
    go_wp2_with fail
    refine (H17.out _ b1).mono ?_
    rintro e w3 ⟨v17, rfl, hv17, hb⟩
    obtain ⟨ag17, gc17, am17, mc17, rfl, -⟩ := hv17.shape
    clear c0 c1 c2 c3 c4 c5 c6 s0 s1
    replace b1 := keep_below b1 hb
    replace hp := (hb.block _ (Array.getElem?_eq_some_iff.1 hp).1).trans hp
    replace hq := (hb.block _ (Array.getElem?_eq_some_iff.1 hq).1).trans hq
    clear hb
    have hb : Below w3.heap.size w3 (w3.alloc (.cells #[.int .i64 y.id, .int .i64 y.c, .int .i64 y.r, .int .i64 y.m, .int .i64 y.s, .slice ag17 y.G.length gc17, .slice am17 y.M.length mc17] 25)) := (Below.refl _ _).alloc (Nat.le_refl _) _
    have hA17 := alloc_heap_new w3 (.cells #[.int .i64 y.id, .int .i64 y.c, .int .i64 y.r, .int .i64 y.m, .int .i64 y.s, .slice ag17 y.G.length gc17, .slice am17 y.M.length mc17] 25)
    replace b1 := keep_below b1 hb
    replace hp := (hb.block _ (Array.getElem?_eq_some_iff.1 hp).1).trans hp
    replace hq := (hb.block _ (Array.getElem?_eq_some_iff.1 hq).1).trans hq
    replace hv17 := hv17.keep hb
    clear hb
    obtain ⟨c0, c1, c2, c3, c4, c5, c6⟩ := And.intro (cell_of hp (k := 0) rfl) (And.intro (cell_of hp (k := 1) rfl) (And.intro (cell_of hp (k := 2) rfl) (And.intro (cell_of hp (k := 3) rfl) (And.intro (cell_of hp (k := 4) rfl) (And.intro (cell_of hp (k := 5) rfl) (cell_of hp (k := 6) rfl))))))
    obtain ⟨s0, s1⟩ := And.intro (cell_of hq (k := 0) rfl) (cell_of hq (k := 1) rfl)
    go_wp2_with fail
    refine (H18.out _ b1).mono ?_
    rintro e w4 ⟨v18, rfl, hv18, hb⟩
    obtain ⟨ag18, gc18, am18, mc18, rfl, -⟩ := hv18.shape
    clear c0 c1 c2 c3 c4 c5 c6 s0 s1
    replace b1 := keep_below b1 hb
    replace hp := (hb.block _ (Array.getElem?_eq_some_iff.1 hp).1).trans hp
    replace hq := (hb.block _ (Array.getElem?_eq_some_iff.1 hq).1).trans hq
    replace hA17 := (hb.block _ (Array.getElem?_eq_some_iff.1 hA17).1).trans hA17
    replace hv17 := hv17.keep hb
    clear hb
    have hb : Below w4.heap.size w4 (w4.alloc (.cells #[.int .i64 y.id, .int .i64 y.c, .int .i64 y.r, .int .i64 y.m, .int .i64 y.s, .slice ag18 y.G.length gc18, .slice am18 y.M.length mc18] 25)) := (Below.refl _ _).alloc (Nat.le_refl _) _
    have hA18 := alloc_heap_new w4 (.cells #[.int .i64 y.id, .int .i64 y.c, .int .i64 y.r, .int .i64 y.m, .int .i64 y.s, .slice ag18 y.G.length gc18, .slice am18 y.M.length mc18] 25)
    replace b1 := keep_below b1 hb
    replace hp := (hb.block _ (Array.getElem?_eq_some_iff.1 hp).1).trans hp
    replace hq := (hb.block _ (Array.getElem?_eq_some_iff.1 hq).1).trans hq
    replace hA17 := (hb.block _ (Array.getElem?_eq_some_iff.1 hA17).1).trans hA17
    replace hv17 := hv17.keep hb
    replace hv18 := hv18.keep hb
    clear hb
    obtain ⟨c0, c1, c2, c3, c4, c5, c6⟩ := And.intro (cell_of hp (k := 0) rfl) (And.intro (cell_of hp (k := 1) rfl) (And.intro (cell_of hp (k := 2) rfl) (And.intro (cell_of hp (k := 3) rfl) (And.intro (cell_of hp (k := 4) rfl) (And.intro (cell_of hp (k := 5) rfl) (cell_of hp (k := 6) rfl))))))
    obtain ⟨s0, s1⟩ := And.intro (cell_of hq (k := 0) rfl) (cell_of hq (k := 1) rfl)
    go_wp2_with fail
    refine (H19.out _ b1).mono ?_
    rintro e w5 ⟨rfl, hb⟩
    clear c0 c1 c2 c3 c4 c5 c6 s0 s1
    replace b1 := keep_below b1 hb
    replace hp := (hb.block _ (Array.getElem?_eq_some_iff.1 hp).1).trans hp
    replace hq := (hb.block _ (Array.getElem?_eq_some_iff.1 hq).1).trans hq
    replace hA17 := (hb.block _ (Array.getElem?_eq_some_iff.1 hA17).1).trans hA17
    replace hA18 := (hb.block _ (Array.getElem?_eq_some_iff.1 hA18).1).trans hA18
    replace hv17 := hv17.keep hb
    replace hv18 := hv18.keep hb
    clear hb
    obtain ⟨c0, c1, c2, c3, c4, c5, c6⟩ := And.intro (cell_of hp (k := 0) rfl) (And.intro (cell_of hp (k := 1) rfl) (And.intro (cell_of hp (k := 2) rfl) (And.intro (cell_of hp (k := 3) rfl) (And.intro (cell_of hp (k := 4) rfl) (And.intro (cell_of hp (k := 5) rfl) (cell_of hp (k := 6) rfl))))))
    obtain ⟨s0, s1⟩ := And.intro (cell_of hq (k := 0) rfl) (cell_of hq (k := 1) rfl)
    go_wp2_with fail
    refine (H20.out _ b1).mono ?_
    rintro e w6 ⟨rfl, hb⟩
    clear c0 c1 c2 c3 c4 c5 c6 s0 s1
    replace b1 := keep_below b1 hb
    replace hp := (hb.block _ (Array.getElem?_eq_some_iff.1 hp).1).trans hp
    replace hq := (hb.block _ (Array.getElem?_eq_some_iff.1 hq).1).trans hq
    replace hA17 := (hb.block _ (Array.getElem?_eq_some_iff.1 hA17).1).trans hA17
    replace hA18 := (hb.block _ (Array.getElem?_eq_some_iff.1 hA18).1).trans hA18
    replace hv17 := hv17.keep hb
    replace hv18 := hv18.keep hb
    clear hb
    obtain ⟨c0, c1, c2, c3, c4, c5, c6⟩ := And.intro (cell_of hp (k := 0) rfl) (And.intro (cell_of hp (k := 1) rfl) (And.intro (cell_of hp (k := 2) rfl) (And.intro (cell_of hp (k := 3) rfl) (And.intro (cell_of hp (k := 4) rfl) (And.intro (cell_of hp (k := 5) rfl) (cell_of hp (k := 6) rfl))))))
    obtain ⟨s0, s1⟩ := And.intro (cell_of hq (k := 0) rfl) (cell_of hq (k := 1) rfl)
    go_wp2_with fail
    refine (H21.out _ b1).mono ?_
    rintro e w7 ⟨v21, rfl, hv21, hb⟩
    clear c0 c1 c2 c3 c4 c5 c6 s0 s1
    replace b1 := keep_below b1 hb
    replace hp := (hb.block _ (Array.getElem?_eq_some_iff.1 hp).1).trans hp
    replace hq := (hb.block _ (Array.getElem?_eq_some_iff.1 hq).1).trans hq
    replace hA17 := (hb.block _ (Array.getElem?_eq_some_iff.1 hA17).1).trans hA17
    replace hA18 := (hb.block _ (Array.getElem?_eq_some_iff.1 hA18).1).trans hA18
    replace hv17 := hv17.keep hb
    replace hv18 := hv18.keep hb
    clear hb
    obtain ⟨c0, c1, c2, c3, c4, c5, c6⟩ := And.intro (cell_of hp (k := 0) rfl) (And.intro (cell_of hp (k := 1) rfl) (And.intro (cell_of hp (k := 2) rfl) (And.intro (cell_of hp (k := 3) rfl) (And.intro (cell_of hp (k := 4) rfl) (And.intro (cell_of hp (k := 5) rfl) (cell_of hp (k := 6) rfl))))))
    obtain ⟨s0, s1⟩ := And.intro (cell_of hq (k := 0) rfl) (cell_of hq (k := 1) rfl)
    go_wp2_with fail
    refine (H22.out _ b1).mono ?_
    rintro e w8 ⟨v22, rfl, hv22, hb⟩
    clear c0 c1 c2 c3 c4 c5 c6 s0 s1
    replace b1 := keep_below b1 hb
    replace hp := (hb.block _ (Array.getElem?_eq_some_iff.1 hp).1).trans hp
    replace hq := (hb.block _ (Array.getElem?_eq_some_iff.1 hq).1).trans hq
    replace hA17 := (hb.block _ (Array.getElem?_eq_some_iff.1 hA17).1).trans hA17
    replace hA18 := (hb.block _ (Array.getElem?_eq_some_iff.1 hA18).1).trans hA18
    replace hv17 := hv17.keep hb
    replace hv18 := hv18.keep hb
    replace hv21 := hv21.keep hb
    clear hb
    obtain ⟨c0, c1, c2, c3, c4, c5, c6⟩ := And.intro (cell_of hp (k := 0) rfl) (And.intro (cell_of hp (k := 1) rfl) (And.intro (cell_of hp (k := 2) rfl) (And.intro (cell_of hp (k := 3) rfl) (And.intro (cell_of hp (k := 4) rfl) (And.intro (cell_of hp (k := 5) rfl) (cell_of hp (k := 6) rfl))))))
    obtain ⟨s0, s1⟩ := And.intro (cell_of hq (k := 0) rfl) (cell_of hq (k := 1) rfl)
    clear c0 c1 c2 c3 c4 c5 c6 s0 s1
    obtain ⟨a0, a1, a2, a3, a4, a5, a6⟩ := And.intro (cell_of hA17 (k := 0) rfl) (And.intro (cell_of hA17 (k := 1) rfl) (And.intro (cell_of hA17 (k := 2) rfl) (And.intro (cell_of hA17 (k := 3) rfl) (And.intro (cell_of hA17 (k := 4) rfl) (And.intro (cell_of hA17 (k := 5) rfl) (cell_of hA17 (k := 6) rfl))))))
    obtain ⟨e0, e1, e2, e3, e4, e5, e6⟩ := And.intro (cell_of hA18 (k := 0) rfl) (And.intro (cell_of hA18 (k := 1) rfl) (And.intro (cell_of hA18 (k := 2) rfl) (And.intro (cell_of hA18 (k := 3) rfl) (And.intro (cell_of hA18 (k := 4) rfl) (And.intro (cell_of hA18 (k := 5) rfl) (cell_of hA18 (k := 6) rfl))))))
    have CP := samePiece_any w8 hv17 hv18 hyg hym
    have CM := Lib.hid (fun W (hW : Below w8.heap.size w8 W) => sameMarks_any W (hv21.keep hW) (hv22.keep hW) hym)
    clear hv17 hv18 hv21 hv22 hp hq hA17 hA18
    go_wp2_with (first
      | (go_at_call 23; with_reducible refine CP.mono ?_; rintro e x1 ⟨rfl, hb⟩)
      | (go_at_call 24; with_reducible refine (CM.out _ hb).mono ?_; rintro e x2 ⟨rfl, hb2⟩))
    go_ret
    exact ⟨rfl, keep_below (keep_below b1 hb) hb2⟩

theorem resetsLaw_any (d : PcD) (sh : Int) (b : Bool) (vg vm : Value) (w : World) (hG : SlG w vg d.G) (hM : SlM w vm d.M) :
    Calls Tryz.prog 4 #[pcs d.id d.c d.r d.m d.s vg vm, st sh b] w fun e w' => e = .returned (.bool true) ∧ Below w.heap.size w w' := by
  obtain ⟨ag, gcap, rfl, -⟩ := _root_.id hG
  obtain ⟨am, mcap, rfl, -⟩ := _root_.id hM
  exact resetsLaw_walk d.id d.c d.r d.m d.s sh b ag am d.G.length gcap d.M.length mcap w (fewB d.G d.M 0) (resD d sh b) (setE d.ok (vset sh d.G.length)) (resD_len d sh b).1 (resD_len d sh b).2
    (Lib.hid fun W hW => few3_any d.id d.c d.r d.m d.s _ _ d.G d.M none 0 0 W (hG.keep hW) (hM.keep hW))
    (Lib.hid fun W hW => reset17_any d _ _ sh b W (hG.keep hW) (hM.keep hW))
    (Lib.hid fun W hW => reset18_any d _ _ sh b W (hG.keep hW) (hM.keep hW))
    (Lib.hid fun W hW => shows19_D d _ _ sh b W (hG.keep hW) (hM.keep hW))
    (Lib.hid fun W hW => shows20_any d _ _ sh b W (hG.keep hW) (hM.keep hW))
    (Lib.hid fun W hW => marks21_D d _ _ sh b W (hG.keep hW) (hM.keep hW))
    (Lib.hid fun W hW => marks22_any d _ _ sh b W (hG.keep hW) (hM.keep hW))

end Go.Proofs.YtcfapbccegijnaaGreat
