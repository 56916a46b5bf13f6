/- The abstract machine, part SH. -/
import Derived.Test.YtcfapbccegijnaaGreatSG
import Derived.Lib.AppendZeros
/- What the region of united yields; appends of marks and of gauges. -/
namespace Go.Proofs.YtcfapbccegijnaaGreat
open Go Go.RowKit Go.Proofs Go.Abs

theorem run_append_none2 (g cap : Nat) (w : World) : (Builtin.append_ #[23, 23] 23 #[.slice (some ⟨g, 0, none⟩) 0 0, .slice none 0 cap]).run Tryz.prog w = .ok (.slice (some ⟨g, 0, none⟩) 0 0) w := by
  kernel_rfl

/-- Marks that are copied behind an empty row. -/
theorem appM {v : Value} {M : List M3} {W : World} (B g : Nat) (h : SlM W v M) (hl : M.length ≤ 1000) (hg : B ≤ g) (hB : B ≤ W.heap.size) (hgl : g < W.heap.size) :
    ∃ a k c W', (Builtin.append_ #[23, 23] 23 #[.slice (some ⟨g, 0, none⟩) 0 0, v]).run Tryz.prog W = .ok (.slice a k c) W' ∧ SlM W' (.slice a k c) M ∧ Fr B (.slice a k c) ∧ Below W.heap.size W W' ∧ ∀ p n c', Value.slice a k c = .slice (some p) n c' → p.block < W'.heap.size := by
  by_cases h0 : M.length = 0
  · have e := List.eq_nil_of_length_eq_zero h0
    subst e
    obtain ⟨ma, mc, rfl, -, -⟩ := h
    cases ma with
    | none => exact ⟨_, _, _, W, run_append_none2 g mc W, ⟨_, _, rfl, by simp, fun k hk => absurd hk (by simp)⟩, fun a n c h => (by cases h; exact hg), Below.refl _ _, fun a n c h => (by cases h; exact hgl)⟩
    | some ma => exact ⟨_, _, _, W, run_append_none g ma mc W, ⟨_, _, rfl, by simp, fun k hk => absurd hk (by simp)⟩, fun a n c h => (by cases h; exact hg), Below.refl _ _, fun a n c h => (by cases h; exact hgl)⟩
  · obtain ⟨bb, off, cap, rfl, hc⟩ := h.cellM (by omega)
    obtain ⟨i0, hi, hz0, hz1, hz2⟩ := info_parts info61
    obtain ⟨v', W', h1, h2, h3⟩ := run_append_arg_grows (P := Tryz.prog) W 23 23 78 i0 (mk 0 0 0) 3 24 Tryz.underlying23 hi hz0 hz1 hz2 rfl (by decide) ⟨g, 0, none⟩ 0 0 [] rfl (by simp) ⟨bb, off, none⟩ M.length cap (mv M) (mv_len M)
      (fun j u hj => by
        have hjl : j < M.length * 3 := by
          have := (List.getElem?_eq_some_iff.1 hj).1
          rwa [mv_len] at this
        rw [mcell_mv hjl] at hj
        cases hj
        rw [Addr.add_lit]
        exact hc j hjl) (by omega) (by unfold maxLen; omega) (by omega)
    rw [Nat.zero_add, List.nil_append] at h2
    obtain ⟨g', cp, rfl, hgB, hR⟩ := rowM_own h2 (by omega)
    exact ⟨_, _, _, W', h1, hR.slm cp (by omega), fun a n c h => (by cases h; exact Nat.le_trans hB hgB), (Below.refl _ _).grown h3 (Nat.le_refl _) (fun k e => by cases e), fun a n c h => (by cases h; exact hR.lt)⟩

theorem SlM.keepB {W W' : World} {v : Value} {M : List M3} {B : Nat} (h : SlM W v M) (hb : Below B W W') (hl : ∀ p n c, v = .slice (some p) n c → p.block < B) : SlM W' v M := by
  obtain ⟨a, cap, rfl, hn, hc⟩ := h
  refine ⟨a, cap, rfl, hn, fun k hk => ?_⟩
  obtain ⟨b, off, rfl, h0, h1, h2⟩ := hc k hk
  have hbB : b < B := hl _ _ _ rfl
  exact ⟨b, off, rfl, (hb.cell (p := ⟨b, _, none⟩) hbB).trans h0, (hb.cell (p := ⟨b, _, none⟩) hbB).trans h1, (hb.cell (p := ⟨b, _, none⟩) hbB).trans h2⟩

theorem run_append_g {W : World} {B k g : Nat} {sv : Value} {F : Nat → G5} {u : G5} (ty : TypeId) (hown : W.ownsRow B 83 5 sv k (rowG F k)) (hk : k ≤ 1000) (hB : B ≤ W.heap.size) (hu : F k = u)
    (hg : W.heap[g]? = some (.cells #[.int .i64 u.a, .int .i64 u.b, .int .i64 u.c, .int .i64 u.d, .int .i64 u.e] 83 (0, 0))) :
    ∃ a n c W', (Builtin.append_ #[22, 22] ty #[sv, .slice (some ⟨g, 0, none⟩) 1 1]).run Tryz.prog W = .ok (.slice a n c) W' ∧ W'.ownsRow B 83 5 (.slice a n c) (k + 1) (rowG F (k + 1)) ∧ W.grownBy W' sv.ownBlock := by
  subst hu
  obtain ⟨v', W', h1, h2, h3⟩ := run_append_gauge ty hown hk hB hg
  obtain ⟨g', cp, rfl⟩ := own_slice h2 (by omega)
  exact ⟨_, _, _, W', h1, h2, h3⟩

/-- What the operations of the region yield. -/
def UnV (R8 Q n k X c8 cq : Nat) (a8 aq : Addr) (r8 gk F : G5) (cb : Bool) (listed : Array Bool) : Nat → Value → World → Prop
  | 0, v, _ => v = .pointer (some ⟨R8, 5, none⟩)
  | 1, v, _ => v = .slice (some a8) n c8
  | 2, v, _ => v = .int .i64 k
  | 3, v, _ => v = .pointer (some ⟨a8.block, a8.off + k * 5, none⟩)
  | 4, v, _ => v = gg r8.a r8.b r8.c r8.d r8.e
  | 5, v, _ => v = .pointer (some ⟨Q, 5, none⟩)
  | 6, v, _ => v = .slice (some aq) n cq
  | 7, v, _ => v = .int .i64 k
  | 8, v, _ => v = .pointer (some ⟨aq.block, aq.off + k * 5, none⟩)
  | 9, v, _ => v = gg gk.a gk.b gk.c gk.d gk.e
  | 10, v, _ => v = .tuple #[gg F.a F.b F.c F.d F.e, .bool cb]
  | 11, v, _ => v = .tuple #[gg F.a F.b F.c F.d F.e, .bool cb]
  | 12, v, _ => v = gg F.a F.b F.c F.d F.e
  | 13, v, _ => v = .bool cb
  | 14, v, W => ∃ p, v = .pointer (some ⟨p, 0, none⟩) ∧ X ≤ p ∧ W.heap[p]? = some (if isIn listed 15 = true then .cells #[.int .i64 F.a, .int .i64 F.b, .int .i64 F.c, .int .i64 F.d, .int .i64 F.e] 83 (0, 0) else .cells #[.int .i64 0, .int .i64 0, .int .i64 0, .int .i64 0, .int .i64 0] 83 (0, 0))
  | 15, _, _ => True
  | _, v, _ => v = .bool cb

def st5G (W : World) (p : Nat) (F : G5) : World := ((((W.setCell ⟨p, 0, none⟩ (.int .i64 F.a)).setCell ⟨p, 1, none⟩ (.int .i64 F.b)).setCell ⟨p, 2, none⟩ (.int .i64 F.c)).setCell ⟨p, 3, none⟩ (.int .i64 F.d)).setCell ⟨p, 4, none⟩ (.int .i64 F.e)

/-- What an operation does to the world. -/
def UnR (X : Nat) (F : G5) (j : Nat) (a : Act) (W W' : World) : Prop :=
  if j = 15 then ∃ p, a.tmps.getD 11 undef = .pointer (some ⟨p, 0, none⟩) ∧ X ≤ p ∧ W' = st5G W p F else Below W.heap.size W W'

theorem st5G_below {W : World} {p X : Nat} {F : G5} (h : X ≤ p) : Below X W (st5G W p F) :=
  Below.setCell (p := ⟨p, 4, none⟩) (Below.setCell (p := ⟨p, 3, none⟩) (Below.setCell (p := ⟨p, 2, none⟩) (Below.setCell (p := ⟨p, 1, none⟩) (Below.setCell (p := ⟨p, 0, none⟩) (Below.refl X W) h (.int .i64 F.a)) h (.int .i64 F.b)) h (.int .i64 F.c)) h (.int .i64 F.d)) h (.int .i64 F.e)

theorem st5G_heap {W : World} {p : Nat} {F : G5} (h : W.heap[p]? = some (.cells #[.int .i64 0, .int .i64 0, .int .i64 0, .int .i64 0, .int .i64 0] 83 (0, 0))) : (st5G W p F).heap[p]? = some (.cells #[.int .i64 F.a, .int .i64 F.b, .int .i64 F.c, .int .i64 F.d, .int .i64 F.e] 83 (0, 0)) := resG h

theorem unR_below {X : Nat} {F : G5} {j : Nat} {a : Act} {W W' : World} (h : j ≠ 15) (hb : Below W.heap.size W W') : UnR X F j a W W' := by
  unfold UnR
  rw [if_neg h]
  exact hb

theorem UnV.step {R8 Q n k X c8 cq : Nat} {a8 aq : Addr} {r8 gk F : G5} {cb : Bool} {listed : Array Bool} {a : Act} {i j : Nat} {v : Value} {W W' : World} (hs : listed.size = 17) (hv : i = 14 → v = a.tmps.getD 11 undef) (hj : isIn listed j = false)
    (h : UnV R8 Q n k X c8 cq a8 aq r8 gk F cb listed i v W) (hR : UnR X F j a W W') : UnV R8 Q n k X c8 cq a8 aq r8 gk F cb (listed.setIfInBounds j true) i v W' := by
  match i, h with
  | 0, h => exact h
  | 1, h => exact h
  | 2, h => exact h
  | 3, h => exact h
  | 4, h => exact h
  | 5, h => exact h
  | 6, h => exact h
  | 7, h => exact h
  | 8, h => exact h
  | 9, h => exact h
  | 10, h => exact h
  | 11, h => exact h
  | 12, h => exact h
  | 13, h => exact h
  | 14, ⟨p, h1, h2, h3⟩ =>
    refine ⟨p, h1, h2, ?_⟩
    have hpl := (Array.getElem?_eq_some_iff.1 h3).1
    unfold UnR at hR
    by_cases e : j = 15
    · subst e
      rw [if_pos rfl] at hR
      obtain ⟨p', e1, -, rfl⟩ := hR
      rw [← hv rfl, h1] at e1
      cases e1
      rw [isIn_set (by omega)]
      simp only [BEq.rfl, Bool.or_true, if_true]
      rw [hj] at h3
      exact st5G_heap h3
    · rw [if_neg e] at hR
      have hn : isIn (listed.setIfInBounds j true) 15 = isIn listed 15 := by
        unfold isIn
        rw [Array.getD_eq_getD_getElem?, Array.getD_eq_getD_getElem?, Array.getElem?_setIfInBounds_ne e]
      rw [hn]
      exact (hR.block _ hpl).trans h3
  | 15, _ => trivial
  | _ + 16, h => exact h

end Go.Proofs.YtcfapbccegijnaaGreat

/- Walks: united, where the pieces are alike but for their gauges. -/
namespace Go.Proofs.YtcfapbccegijnaaGreat
open Go Go.RowKit Go.Proofs Go.Abs

set_option maxRecDepth 100000 in
set_option maxHeartbeats 32000000 in
theorem united_same (p q y : PcD) (sh : Int) (b : Bool) (agp amp agq amq : Option Addr) (gcp mcp gcq mcq : Nat) (w : World)
    (j0 : Hid (q.c = y.c))    (j1 : Hid (q.r = y.r))    (j2 : Hid (q.m = y.m))    (j3 : Hid (q.s = y.s))
    (H51 : Hid (∀ W, Below w.heap.size w W → Calls Tryz.prog 51 #[pcs p.id p.c p.r p.m p.s (.slice agp p.G.length gcp) (.slice amp p.M.length mcp), st sh b] W fun e w' => ∃ v, e = .returned v ∧ PcV w' W.heap.size v y ∧ Below W.heap.size W w'))
    (H24 : Hid (∀ W am mc, Below w.heap.size w W → SlM W (.slice am y.M.length mc) y.M → Calls Tryz.prog 24 #[.slice am y.M.length mc, .slice amq q.M.length mcq] W fun e w' => e = .returned (.bool true) ∧ Below W.heap.size W w'))
    (HM' : Hid (SlM w (.slice amq q.M.length mcq) q.M)) (hGq : SlG w (.slice agq q.G.length gcq) q.G) (HYL : Hid (y.G.length = q.G.length)) (hn24 : q.G.length ≤ 24) (hn0 : 0 < q.G.length) (hml : q.M.length ≤ 1000) (al : Bool) (D : PcD) (HAL : Hid (cmpL y.G q.G = al)) (HD : Hid (D = if al then mgD y q else zeroD))
    :
    Calls Tryz.prog 56 #[pcs p.id p.c p.r p.m p.s (.slice agp p.G.length gcp) (.slice amp p.M.length mcp), pcs q.id q.c q.r q.m q.s (.slice agq q.G.length gcq) (.slice amq q.M.length mcq), st sh b] w fun e w' => ∃ v, e = .returned (.tuple #[v, .bool al]) ∧ PcV w' w.heap.size v D ∧ Below w.heap.size w w' := by
  obtain ⟨hp, hq, hs, hr, b1⟩ := pcs3_new w (pcsObj p.id p.c p.r p.m p.s (.slice agp p.G.length gcp) (.slice amp p.M.length mcp)) (pcsObj q.id q.c q.r q.m q.s (.slice agq q.G.length gcq) (.slice amq q.M.length mcq)) sh b
  obtain ⟨W0, hW0⟩ : ∃ W0, ((((w.alloc (pcsObj p.id p.c p.r p.m p.s (.slice agp p.G.length gcp) (.slice amp p.M.length mcp))).alloc (pcsObj q.id q.c q.r q.m q.s (.slice agq q.G.length gcq) (.slice amq q.M.length mcq))).alloc (stObj sh b)).alloc (.cells #[.int .i64 0, .int .i64 0, .int .i64 0, .int .i64 0, .int .i64 0, .slice none 0 0, .slice none 0 0] 25)) = W0 := ⟨_, rfl⟩
  rw [hW0] at hp hq hs hr b1
  obtain ⟨c0, c1, c2, c3, c4, c5, c6⟩ := And.intro (cell_of hp (k := 0) rfl) (And.intro (cell_of hp (k := 1) rfl) (And.intro (cell_of hp (k := 2) rfl) (And.intro (cell_of hp (k := 3) rfl) (And.intro (cell_of hp (k := 4) rfl) (And.intro (cell_of hp (k := 5) rfl) (cell_of hp (k := 6) rfl))))))
  obtain ⟨s0, s1⟩ := And.intro (cell_of hs (k := 0) rfl) (cell_of hs (k := 1) rfl)
  go_enter Tryz.func56, Tryz.ntmps56
  go_wp2_with fail
  refine (H51.out _ b1).mono ?_
  rintro e w4 ⟨v4, rfl, hv4, hb⟩
  obtain ⟨ag8, gc8, am8, mc8, rfl, hv4⟩ := hv4.pcs
  clear hW0 c0 c1 c2 c3 c4 c5 c6 s0 s1
  replace j0 := j0.out
  replace j1 := j1.out
  replace j2 := j2.out
  replace j3 := j3.out
  replace b1 := keep_below b1 hb
  replace hp := (hb.block _ (Array.getElem?_eq_some_iff.1 hp).1).trans hp
  replace hq := (hb.block _ (Array.getElem?_eq_some_iff.1 hq).1).trans hq
  replace hs := (hb.block _ (Array.getElem?_eq_some_iff.1 hs).1).trans hs
  replace hr := (hb.block _ (Array.getElem?_eq_some_iff.1 hr).1).trans hr
  clear hb
  have hb : Below w4.heap.size w4 (w4.alloc (.cells #[.int .i64 y.id, .int .i64 y.c, .int .i64 y.r, .int .i64 y.m, .int .i64 y.s, .slice ag8 y.G.length gc8, .slice am8 y.M.length mc8] 25)) := (Below.refl _ _).alloc (Nat.le_refl _) _
  have h8 := alloc_heap_new w4 (.cells #[.int .i64 y.id, .int .i64 y.c, .int .i64 y.r, .int .i64 y.m, .int .i64 y.s, .slice ag8 y.G.length gc8, .slice am8 y.M.length mc8] 25)
  have hv8 := (hv4.mono (Nat.zero_le _)).keep hb
  clear hv4
  replace b1 := keep_below b1 hb
  replace hp := (hb.block _ (Array.getElem?_eq_some_iff.1 hp).1).trans hp
  replace hq := (hb.block _ (Array.getElem?_eq_some_iff.1 hq).1).trans hq
  replace hs := (hb.block _ (Array.getElem?_eq_some_iff.1 hs).1).trans hs
  replace hr := (hb.block _ (Array.getElem?_eq_some_iff.1 hr).1).trans hr
  clear hb
  obtain ⟨e0, e1, e2, e3, e4, e5, e6⟩ := And.intro (cell_of h8 (k := 0) rfl) (And.intro (cell_of h8 (k := 1) rfl) (And.intro (cell_of h8 (k := 2) rfl) (And.intro (cell_of h8 (k := 3) rfl) (And.intro (cell_of h8 (k := 4) rfl) (And.intro (cell_of h8 (k := 5) rfl) (cell_of h8 (k := 6) rfl))))))
  obtain ⟨c0, c1, c2, c3, c4, c5, c6⟩ := And.intro (cell_of hq (k := 0) rfl) (And.intro (cell_of hq (k := 1) rfl) (And.intro (cell_of hq (k := 2) rfl) (And.intro (cell_of hq (k := 3) rfl) (And.intro (cell_of hq (k := 4) rfl) (And.intro (cell_of hq (k := 5) rfl) (cell_of hq (k := 6) rfl))))))
  obtain ⟨vg8, vm8, ev, hG8, hM8, -, -⟩ := hv8
  simp only [Value.agg.injEq, Array.mk.injEq, List.cons.injEq, and_true] at ev
  obtain ⟨-, -, -, -, -, rfl, rfl⟩ := ev
  go_wp2_with fail
  refine (H24.out _ _ _ b1 hM8).mono ?_
  rintro e w5 ⟨rfl, hb⟩
  clear j0 j1 j2 j3 e0 e1 e2 e3 e4 e5 e6 c0 c1 c2 c3 c4 c5 c6
  replace b1 := keep_below b1 hb
  replace hp := (hb.block _ (Array.getElem?_eq_some_iff.1 hp).1).trans hp
  replace hq := (hb.block _ (Array.getElem?_eq_some_iff.1 hq).1).trans hq
  replace hs := (hb.block _ (Array.getElem?_eq_some_iff.1 hs).1).trans hs
  replace hr := (hb.block _ (Array.getElem?_eq_some_iff.1 hr).1).trans hr
  replace h8 := (hb.block _ (Array.getElem?_eq_some_iff.1 h8).1).trans h8
  replace hG8 := hG8.keep hb
  clear hb H24 H51 hM8 hp hs
  obtain ⟨c0, c1, c2, c3, c4, c5, c6⟩ := And.intro (cell_of hq (k := 0) rfl) (And.intro (cell_of hq (k := 1) rfl) (And.intro (cell_of hq (k := 2) rfl) (And.intro (cell_of hq (k := 3) rfl) (And.intro (cell_of hq (k := 4) rfl) (And.intro (cell_of hq (k := 5) rfl) (cell_of hq (k := 6) rfl))))))
  have B0 : Below w5.heap.size w5 ((w5.alloc (.cells #[.int .i64 q.id, .int .i64 q.c, .int .i64 q.r, .int .i64 q.m, .int .i64 q.s, .slice none 0 0, .slice amq q.M.length mcq] 25)).alloc (.cells #[] 78)) := ((Below.refl _ _).alloc (Nat.le_refl _) _).alloc (by simp) _
  have N0 : ((w5.alloc (.cells #[.int .i64 q.id, .int .i64 q.c, .int .i64 q.r, .int .i64 q.m, .int .i64 q.s, .slice none 0 0, .slice amq q.M.length mcq] 25)).alloc (.cells #[] 78)).heap[w5.heap.size]? = some (.cells #[.int .i64 q.id, .int .i64 q.c, .int .i64 q.r, .int .i64 q.m, .int .i64 q.s, .slice none 0 0, .slice amq q.M.length mcq] 25 (0, 0)) := (alloc_heap_old _ _ (by simp)).trans (alloc_heap_new _ _)
  have k6 := keep_cell B0 c6
  have c6' := keep_cell ((Below.refl w5.heap.size w5).alloc (Nat.le_refl _) (.cells #[.int .i64 q.id, .int .i64 q.c, .int .i64 q.r, .int .i64 q.m, .int .i64 q.s, .slice none 0 0, .slice amq q.M.length mcq] 25)) c6
  obtain ⟨a6, n6, e6, W6, hrun, hS6, hF6, hb6, hL6⟩ := appM (w5.heap.size + 1) (w5.heap.size + 1) ((HM'.out.keep b1).keep B0) hml (Nat.le_refl _) (by simp) (by simp)
  have N6 := (hb6.block _ (Array.getElem?_eq_some_iff.1 N0).1).trans N0
  have x6 := cell_of N6 (k := 6) rfl
  have y6 : W6.frozen? ⟨w5.heap.size, 6, none⟩ = false := frozen_of N6
  have hGq5 := hGq.keep b1
  have hyl := Lib.hid HYL.out
  clear HYL
  have B6 := B0.trans (hb6.mono (by simp; omega))
  go_wp2_with (at_builtin; go_loud (refine Lib.wpList_append_run _ rfl _ _ _ _ rfl _ _ rfl rfl _ _ hrun ?_))
  clear hrun x6 y6 k6 c6' c0 c1 c2 c3 c4 c5 c6 B0 N0
  have hzN : w5.heap.size + 1 ≤ W6.heap.size := (Array.getElem?_eq_some_iff.1 N6).1
  have hS7 : SlM (W6.setCell ⟨w5.heap.size, 6, none⟩ (.slice a6 n6 e6)) (.slice a6 n6 e6) q.M := slm_set hS6 (fun p n c h => by have := hF6 p n c h; omega)
  have N7 := set6_box (v := .slice a6 n6 e6) N6
  have B7 : Below w5.heap.size w5 (W6.setCell ⟨w5.heap.size, 6, none⟩ (.slice a6 n6 e6)) := B6.setCell (p := ⟨w5.heap.size, 6, none⟩) (Nat.le_refl _) _
  have hL7 : ∀ p n c', Value.slice a6 n6 e6 = .slice (some p) n c' → p.block < (W6.setCell ⟨w5.heap.size, 6, none⟩ (.slice a6 n6 e6)).heap.size := fun p n c' h => by simpa [World.setCell] using hL6 p n c' h
  have Z7 : w5.heap.size + 1 ≤ (W6.setCell ⟨w5.heap.size, 6, none⟩ (.slice a6 n6 e6)).heap.size := by simpa [World.setCell] using hzN
  clear hS6 N6 B6 hL6 hb6 hzN
  obtain ⟨b8, o8, gc8', e8, hc8⟩ := hG8.cell (by rw [hyl.out]; exact hn0)
  simp only [Value.slice.injEq] at e8
  obtain ⟨rfl, -, rfl⟩ := e8
  obtain ⟨bq, oq, gcq', eq, hcq⟩ := hGq5.cell hn0
  simp only [Value.slice.injEq] at eq
  obtain ⟨rfl, -, rfl⟩ := eq
  rw [hyl.out] at h8 hc8
  have HC8 := Lib.hid (fun (k : Nat) (hk : k < q.G.length) => (show w5.cell? ⟨b8, o8 + k * 5, none⟩ = some (.int .i64 (gz y.G k).a) ∧ w5.cell? ⟨b8, o8 + k * 5 + 1, none⟩ = some (.int .i64 (gz y.G k).b) ∧ w5.cell? ⟨b8, o8 + k * 5 + 2, none⟩ = some (.int .i64 (gz y.G k).c) ∧ w5.cell? ⟨b8, o8 + k * 5 + 3, none⟩ = some (.int .i64 (gz y.G k).d) ∧ w5.cell? ⟨b8, o8 + k * 5 + 4, none⟩ = some (.int .i64 (gz y.G k).e) from
    ⟨by rw [hc8 _ (by omega), cG_0], by rw [Nat.add_assoc, hc8 _ (by omega), cG_1], by rw [Nat.add_assoc, hc8 _ (by omega), cG_2], by rw [Nat.add_assoc, hc8 _ (by omega), cG_3], by rw [Nat.add_assoc, hc8 _ (by omega), cG_4]⟩))
  have HCq := Lib.hid (fun (k : Nat) (hk : k < q.G.length) => (show w5.cell? ⟨bq, oq + k * 5, none⟩ = some (.int .i64 (gz q.G k).a) ∧ w5.cell? ⟨bq, oq + k * 5 + 1, none⟩ = some (.int .i64 (gz q.G k).b) ∧ w5.cell? ⟨bq, oq + k * 5 + 2, none⟩ = some (.int .i64 (gz q.G k).c) ∧ w5.cell? ⟨bq, oq + k * 5 + 3, none⟩ = some (.int .i64 (gz q.G k).d) ∧ w5.cell? ⟨bq, oq + k * 5 + 4, none⟩ = some (.int .i64 (gz q.G k).e) from
    ⟨by rw [hcq _ (by omega), cG_0], by rw [Nat.add_assoc, hcq _ (by omega), cG_1], by rw [Nat.add_assoc, hcq _ (by omega), cG_2], by rw [Nat.add_assoc, hcq _ (by omega), cG_3], by rw [Nat.add_assoc, hcq _ (by omega), cG_4]⟩))
  have CB := Lib.hid (fun (k : Nat) W => both_any (gz y.G k) (gz q.G k) W)
  obtain ⟨F, hF⟩ : ∃ F : Nat → G5, F = fun x => comG (gz y.G x) (gz q.G x) := ⟨_, rfl⟩
  have eF : ∀ k, comG (gz y.G k) (gz q.G k) = F k := fun k => by rw [hF]
  obtain ⟨cf, hcf⟩ : ∃ cf : Nat → Bool, cf = fun x => cmpG (gz y.G x) (gz q.G x) := ⟨_, rfl⟩
  have ecf : ∀ k, cmpG (gz y.G k) (gz q.G k) = cf k := fun k => by rw [hcf]
  simp only [eF, ecf] at CB
  have NO := Lib.hid (fun (k : Nat) (hk : k < q.G.length) (h : cf k = false) => cmpL_no (G := y.G) (H := q.G) (k := k) (by rw [hyl.out]; exact hk) (by rw [ecf]; exact h))
  have YES := Lib.hid (fun (h : ∀ k, k < q.G.length → cf k = true) => cmpL_yes (G := y.G) (H := q.G) hyl.out (fun k hk => by rw [ecf]; exact h k (by rw [← hyl.out]; exact hk)))
  have DONE := Lib.hid (fun (W : World) (B : Nat) (v : Value) (h : W.ownsRow B 83 5 v q.G.length (rowG F q.G.length)) => own_slg h (comL_len y.G q.G q.G.length) hn0 (by omega) (fun i hi => by rw [comL_gz y.G q.G hi, eF]))
  have hal := HAL.out
  rw [hal] at NO YES
  clear hG8 hGq hGq5 hc8 hcq hF eF hcf ecf hal
  rw [hyl.out]
  clear hyl
  obtain ⟨n, hn⟩ : ∃ n, q.G.length = n := ⟨_, rfl⟩
  have HN := Lib.hid hn
  rw [hn] at HC8 HCq DONE NO YES hn0 hn24 h8 hq ⊢
  clear hn
  generalize W6.setCell ⟨w5.heap.size, 6, none⟩ (.slice a6 n6 e6) = W1 at hS7 N7 B7 hL7 Z7 ⊢
  have h8l := Lib.hid (Array.getElem?_eq_some_iff.1 h8).1
  have hql := Lib.hid (Array.getElem?_eq_some_iff.1 hq).1
  have hrl := Lib.hid (Array.getElem?_eq_some_iff.1 hr).1
  have HL7 := Lib.hid hL7
  have HZ7 := Lib.hid Z7
  go_loopw [10] (fun i wr => ∃ k : Nat, k ≤ n ∧ i = .int .i64 k ∧ ∃ sv, Below w5.heap.size w5 wr ∧ wr.heap[w5.heap.size]? = some (.cells #[.int .i64 q.id, .int .i64 q.c, .int .i64 q.r, .int .i64 q.m, .int .i64 q.s, sv, .slice a6 n6 e6] 25 (0, 0)) ∧ wr.ownsRow W1.heap.size 83 5 sv k (rowG F k) ∧ SlM wr (.slice a6 n6 e6) q.M ∧ W1.heap.size ≤ wr.heap.size ∧ Hid (∀ j, j < k → cf j = true)) (fun i _ => n - (intOf i).toNat)
  case atStart => exact ⟨0, Nat.zero_le _, rfl, _, B7, N7, World.ownsRow_nil _ _ _ _, hS7, Nat.le_refl _, Lib.hid (fun j h => absurd h (Nat.not_lt_zero j))⟩
  case round =>
    clear N7 B7 hS7 hL7 Z7
    obtain ⟨k, hk, rfl, sv, B1, N1, hown, hSM, hsz1, HK⟩ := hrel
    by_cases hlt : k < n
    · have j1 : (k : Int) < (n : Int) := by omega
      have q5 := cell_of ((B1.block _ hql.out).trans hq) (k := 5) rfl
      obtain ⟨x0, x1, x2, x3, x4⟩ := HCq.out k hlt
      obtain ⟨y0, y1, y2, y3, y4⟩ := HC8.out k hlt
      have CBk := Lib.hid (CB.out k)
      have NOk := Lib.hid (NO.out k hlt)
      obtain ⟨gk, hgk⟩ : ∃ g, gz q.G k = g := ⟨_, rfl⟩
      rw [hgk] at x0 x1 x2 x3 x4 CBk
      clear hgk
      obtain ⟨r8, hr8⟩ : ∃ g, gz y.G k = g := ⟨_, rfl⟩
      rw [hr8] at y0 y1 y2 y3 y4 CBk
      clear hr8
      obtain ⟨fk, hfk⟩ : ∃ g, F k = g := ⟨_, rfl⟩
      have HFK := Lib.hid hfk
      rw [hfk] at CBk
      clear hfk
      obtain ⟨cb, hcb⟩ : ∃ g, cf k = g := ⟨_, rfl⟩
      have HCB := Lib.hid hcb
      rw [hcb] at CBk NOk
      clear hcb
      have H8 := Lib.hid h8
      have HQ := Lib.hid hq
      have HR := Lib.hid hr
      have HB1 := Lib.hid B1
      have HN1 := Lib.hid N1
      have HOW := Lib.hid hown
      have HSM := Lib.hid hSM
      have HS1 := Lib.hid hsz1
      clear h8 hq hr N1 hown hSM hsz1
      go_wp2_with fail
      clear q5
      refine wp_region_valsZQ (UnV w4.heap.size (w.heap.size + 1) n k wr.heap.size gc8 gcq ⟨b8, o8, none⟩ ⟨bq, oq, none⟩ r8 gk fk cb) (UnR wr.heap.size fk) (fun _ W => Below wr.heap.size wr W) (by kernel_rfl) (by kernel_rfl) ?_ ?_ ?_ ?_ ?_
      · exact (Below.refl _ _).drew
      · intro listed a' j W W' _ _ _ hg hR
        unfold UnR at hR
        split at hR
        · obtain ⟨p, -, hX, rfl⟩ := hR
          exact hg.trans (st5G_below hX)
        · exact keep_below hg hR
      · intro listed a' i j oi W W' hoi hj hls hij hanc hli hlj hv hg hR
        refine hv.step (by rw [hls]; rfl) (fun h14 => ?_) hlj hR
        subst h14
        simp only [List.getElem?_cons_zero, List.getElem?_cons_succ, Option.some.injEq] at hoi
        subst hoi
        rfl
      · intro i o ho listed a' W hls hli hcl hGd hfr hdep
        have f4 : a'.tmps[4]?.getD undef = .pointer (some ⟨w.heap.size + 1, 0, none⟩) := Array.getD_eq_getD_getElem?.symm.trans (hfr 4 rfl)
        have f8 : a'.tmps[8]?.getD undef = .pointer (some ⟨w4.heap.size, 0, none⟩) := Array.getD_eq_getD_getElem?.symm.trans (hfr 8 rfl)
        have f10 : a'.tmps[10]?.getD undef = .int .i64 k := Array.getD_eq_getD_getElem?.symm.trans (hfr 10 rfl)
        have hIw := keep_below HB1.out hGd
        clear hfr
        have hi : i < 17 := by have := (List.getElem?_eq_some_iff.1 ho).1; simpa using this
        obtain rfl | rfl | rfl | rfl | rfl | rfl | rfl | rfl | rfl | rfl | rfl | rfl | rfl | rfl | rfl | rfl | rfl : i = 0 ∨ i = 1 ∨ i = 2 ∨ i = 3 ∨ i = 4 ∨ i = 5 ∨ i = 6 ∨ i = 7 ∨ i = 8 ∨ i = 9 ∨ i = 10 ∨ i = 11 ∨ i = 12 ∨ i = 13 ∨ i = 14 ∨ i = 15 ∨ i = 16 := by omega
        all_goals simp only [List.getElem?_cons_zero, List.getElem?_cons_succ, Option.some.injEq] at ho
        all_goals subst ho
        · clear hdep
          refine .inl ⟨rfl, _, W, ?_, unR_below (by omega) (Below.refl _ _), rfl⟩
          go_simp
        · have d0 : a'.tmps[66]?.getD undef = .pointer (some ⟨w4.heap.size, 5, none⟩) := Array.getD_eq_getD_getElem?.symm.trans (hdep ⟨0, .data⟩ (by simp) rfl _ rfl)
          have h8w := (hIw.block _ h8l.out).trans H8.out
          have c0 : W.cell? ⟨w4.heap.size, 5, none⟩ = some (.slice (some ⟨b8, o8, none⟩) n gc8) := cell_of h8w rfl
          clear h8w
          clear hdep
          refine .inl ⟨rfl, _, W, ?_, unR_below (by omega) (Below.refl _ _), rfl⟩
          go_simp
        · clear hdep
          refine .inl ⟨rfl, _, W, ?_, unR_below (by omega) (Below.refl _ _), rfl⟩
          go_simp
        · have d1 : a'.tmps[67]?.getD undef = .slice (some ⟨b8, o8, none⟩) n gc8 := Array.getD_eq_getD_getElem?.symm.trans (hdep ⟨1, .data⟩ (by simp) rfl _ rfl)
          have d2 : a'.tmps[68]?.getD undef = .int .i64 k := Array.getD_eq_getD_getElem?.symm.trans (hdep ⟨2, .data⟩ (by simp) rfl _ rfl)
          clear hdep
          refine .inl ⟨rfl, .pointer (some ⟨b8, o8 + k * 5, none⟩), W, ?_, unR_below (by omega) (Below.refl _ _), rfl⟩
          go_simp
        · have d3 : a'.tmps[69]?.getD undef = .pointer (some ⟨b8, o8 + k * 5, none⟩) := Array.getD_eq_getD_getElem?.symm.trans (hdep ⟨3, .data⟩ (by simp) rfl _ rfl)
          have c0 := keep_cell hIw y0
          have c1 := keep_cell hIw y1
          have c2 := keep_cell hIw y2
          have c3 := keep_cell hIw y3
          have c4 := keep_cell hIw y4
          clear hdep
          refine .inl ⟨rfl, _, W, ?_, unR_below (by omega) (Below.refl _ _), rfl⟩
          go_simp
        · clear hdep
          refine .inl ⟨rfl, _, W, ?_, unR_below (by omega) (Below.refl _ _), rfl⟩
          go_simp
        · have d5 : a'.tmps[71]?.getD undef = .pointer (some ⟨w.heap.size + 1, 5, none⟩) := Array.getD_eq_getD_getElem?.symm.trans (hdep ⟨5, .data⟩ (by simp) rfl _ rfl)
          have hqw := (hIw.block _ hql.out).trans HQ.out
          have c0 : W.cell? ⟨w.heap.size + 1, 5, none⟩ = some (.slice (some ⟨bq, oq, none⟩) n gcq) := cell_of hqw rfl
          clear hqw
          clear hdep
          refine .inl ⟨rfl, _, W, ?_, unR_below (by omega) (Below.refl _ _), rfl⟩
          go_simp
        · clear hdep
          refine .inl ⟨rfl, _, W, ?_, unR_below (by omega) (Below.refl _ _), rfl⟩
          go_simp
        · have d6 : a'.tmps[72]?.getD undef = .slice (some ⟨bq, oq, none⟩) n gcq := Array.getD_eq_getD_getElem?.symm.trans (hdep ⟨6, .data⟩ (by simp) rfl _ rfl)
          have d7 : a'.tmps[73]?.getD undef = .int .i64 k := Array.getD_eq_getD_getElem?.symm.trans (hdep ⟨7, .data⟩ (by simp) rfl _ rfl)
          clear hdep
          refine .inl ⟨rfl, .pointer (some ⟨bq, oq + k * 5, none⟩), W, ?_, unR_below (by omega) (Below.refl _ _), rfl⟩
          go_simp
        · have d8 : a'.tmps[74]?.getD undef = .pointer (some ⟨bq, oq + k * 5, none⟩) := Array.getD_eq_getD_getElem?.symm.trans (hdep ⟨8, .data⟩ (by simp) rfl _ rfl)
          have c0 := keep_cell hIw x0
          have c1 := keep_cell hIw x1
          have c2 := keep_cell hIw x2
          have c3 := keep_cell hIw x3
          have c4 := keep_cell hIw x4
          clear hdep
          refine .inl ⟨rfl, _, W, ?_, unR_below (by omega) (Below.refl _ _), rfl⟩
          go_simp
        · have d4 : a'.tmps[70]?.getD undef = gg r8.a r8.b r8.c r8.d r8.e := Array.getD_eq_getD_getElem?.symm.trans (hdep ⟨4, .data⟩ (by simp) rfl _ rfl)
          have d9 : a'.tmps[75]?.getD undef = gg gk.a gk.b gk.c gk.d gk.e := Array.getD_eq_getD_getElem?.symm.trans (hdep ⟨9, .data⟩ (by simp) rfl _ rfl)
          clear hdep
          refine .inr (.inl ⟨rfl, 107, #[gg r8.a r8.b r8.c r8.d r8.e, gg gk.a gk.b gk.c gk.d gk.e], ?_, (CBk.out W).mono ?_⟩)
          · go_simp
          · rintro e W' ⟨rfl, hb⟩
            exact ⟨_, rfl, unR_below (by omega) hb, rfl⟩
        · have d10 : a'.tmps[76]?.getD undef = .tuple #[gg fk.a fk.b fk.c fk.d fk.e, .bool cb] := Array.getD_eq_getD_getElem?.symm.trans (hdep ⟨10, .data⟩ (by simp) rfl _ rfl)
          clear hdep
          refine .inl ⟨rfl, _, W, ?_, unR_below (by omega) (Below.refl _ _), rfl⟩
          go_simp
        · have d11 : a'.tmps[65]?.getD undef = .tuple #[gg fk.a fk.b fk.c fk.d fk.e, .bool cb] := Array.getD_eq_getD_getElem?.symm.trans (hdep ⟨11, .data⟩ (by simp) rfl _ rfl)
          clear hdep
          refine .inl ⟨rfl, _, W, ?_, unR_below (by omega) (Below.refl _ _), rfl⟩
          go_simp
        · have d11 : a'.tmps[65]?.getD undef = .tuple #[gg fk.a fk.b fk.c fk.d fk.e, .bool cb] := Array.getD_eq_getD_getElem?.symm.trans (hdep ⟨11, .data⟩ (by simp) rfl _ rfl)
          clear hdep
          refine .inl ⟨rfl, _, W, ?_, unR_below (by omega) (Below.refl _ _), rfl⟩
          go_simp
        · clear hdep
          refine .inl ⟨rfl, .pointer (some ⟨W.heap.size, 0, none⟩), W.alloc (.cells #[.int .i64 0, .int .i64 0, .int .i64 0, .int .i64 0, .int .i64 0] 83), ?_, unR_below (by omega) ((Below.refl _ _).alloc (Nat.le_refl _) _), W.heap.size, rfl, hGd.size, ?_⟩
          · go_simp
          · rw [if_neg (by rw [isIn_set (by rw [hls]; simp), hcl 15 (by kernel_rfl)]; simp)]
            exact alloc_heap_new _ _
        · have d12 : a'.tmps[77]?.getD undef = gg fk.a fk.b fk.c fk.d fk.e := Array.getD_eq_getD_getElem?.symm.trans (hdep ⟨12, .data⟩ (by simp) rfl _ rfl)
          obtain ⟨p, hv11, hXp, hp⟩ := hdep ⟨14, .data⟩ (by simp) rfl _ rfl
          rw [if_neg (by rw [hli]; simp)] at hp
          have d11 : a'.tmps[11]?.getD undef = .pointer (some ⟨p, 0, none⟩) := Array.getD_eq_getD_getElem?.symm.trans hv11
          clear hdep
          have c0 := cell_of hp (k := 0) rfl
          have c1 := cell_of hp (k := 1) rfl
          have c2 := cell_of hp (k := 2) rfl
          have c3 := cell_of hp (k := 3) rfl
          have c4 := cell_of hp (k := 4) rfl
          have f0 : W.frozen? ⟨p, 0, none⟩ = false := frozen_of hp
          have f1 : W.frozen? ⟨p, 1, none⟩ = false := frozen_of hp
          have f2 : W.frozen? ⟨p, 2, none⟩ = false := frozen_of hp
          have f3 : W.frozen? ⟨p, 3, none⟩ = false := frozen_of hp
          have f4 : W.frozen? ⟨p, 4, none⟩ = false := frozen_of hp
          refine .inr (.inr ⟨rfl, st5G W p fk, ?_, ?_, trivial⟩)
          · unfold st5G
            go_simp
          · unfold UnR
            rw [if_pos rfl]
            exact ⟨p, hv11, hXp, rfl⟩
        · have d13 : a'.tmps[78]?.getD undef = .bool cb := Array.getD_eq_getD_getElem?.symm.trans (hdep ⟨13, .data⟩ (by simp) rfl _ rfl)
          clear hdep
          refine .inl ⟨rfl, _, W, ?_, unR_below (by omega) (Below.refl _ _), rfl⟩
          go_simp
      · intro listed W hall hGd
        simp only [List.map_cons, List.map_nil, VQ]
        rintro _ rfl _ rfl _ rfl _ rfl _ rfl _ rfl _ rfl _ rfl _ rfl _ rfl _ rfl _ rfl _ rfl _ rfl _ ⟨p, rfl, hX, hp⟩ _ rfl
        rw [if_pos (hall 15 (by simp))] at hp
        simp only [List.setIfInBounds_toArray, List.set_cons_zero, List.set_cons_succ]
        clear hall listed x0 x1 x2 x3 x4 y0 y1 y2 y3 y4 CBk B1
        simp only [Exit.then]
        go_at_K
        have bW := keep_below HB1.out hGd
        have bw := keep_below b1 bW
        cases cb
        · have hr := (bW.block _ hrl.out).trans HR.out
          obtain ⟨z0, z1, z2, z3, z4, z5, z6⟩ := And.intro (cell_of hr (k := 0) rfl) (And.intro (cell_of hr (k := 1) rfl) (And.intro (cell_of hr (k := 2) rfl) (And.intro (cell_of hr (k := 3) rfl) (And.intro (cell_of hr (k := 4) rfl) (And.intro (cell_of hr (k := 5) rfl) (cell_of hr (k := 6) rfl))))))
          have f0 : W.frozen? ⟨w.heap.size + 3, 0, none⟩ = false := frozen_of hr
          have f1 : W.frozen? ⟨w.heap.size + 3, 1, none⟩ = false := frozen_of hr
          have f2 : W.frozen? ⟨w.heap.size + 3, 2, none⟩ = false := frozen_of hr
          have f3 : W.frozen? ⟨w.heap.size + 3, 3, none⟩ = false := frozen_of hr
          have f4 : W.frozen? ⟨w.heap.size + 3, 4, none⟩ = false := frozen_of hr
          have f5 : W.frozen? ⟨w.heap.size + 3, 5, none⟩ = false := frozen_of hr
          have f6 : W.frozen? ⟨w.heap.size + 3, 6, none⟩ = false := frozen_of hr
          have hlt := (Array.getElem?_eq_some_iff.1 hr).1
          go_wp2_with fail
          obtain ⟨WF, hWF⟩ : ∃ WF, ((((((W.setCell ⟨w.heap.size + 1 + 1 + 1, 0, none⟩ (.int .i64 0)).setCell ⟨w.heap.size + 1 + 1 + 1, 1, none⟩ (.int .i64 0)).setCell ⟨w.heap.size + 1 + 1 + 1, 2, none⟩ (.int .i64 0)).setCell ⟨w.heap.size + 1 + 1 + 1, 3, none⟩ (.int .i64 0)).setCell ⟨w.heap.size + 1 + 1 + 1, 4, none⟩ (.int .i64 0)).setCell ⟨w.heap.size + 1 + 1 + 1, 5, none⟩ (.slice none 0 0)).setCell ⟨w.heap.size + 1 + 1 + 1, 6, none⟩ (.slice none 0 0) = WF := ⟨_, rfl⟩
          rw [hWF]
          have hf : WF.heap[w.heap.size + 1 + 1 + 1]? = some (.cells #[.int .i64 0, .int .i64 0, .int .i64 0, .int .i64 0, .int .i64 0, .slice none 0 0, .slice none 0 0] 25 (0, 0)) := by
            rw [← hWF]
            exact res7 hr
          have hb4 : Below w.heap.size w WF := by
            rw [← hWF]
            exact ((((((bw.setCell (p := ⟨w.heap.size + 1 + 1 + 1, 0, none⟩) (by simp; omega) _).setCell (p := ⟨w.heap.size + 1 + 1 + 1, 1, none⟩) (by simp; omega) _).setCell (p := ⟨w.heap.size + 1 + 1 + 1, 2, none⟩) (by simp; omega) _).setCell (p := ⟨w.heap.size + 1 + 1 + 1, 3, none⟩) (by simp; omega) _).setCell (p := ⟨w.heap.size + 1 + 1 + 1, 4, none⟩) (by simp; omega) _).setCell (p := ⟨w.heap.size + 1 + 1 + 1, 5, none⟩) (by simp; omega) _).setCell (p := ⟨w.heap.size + 1 + 1 + 1, 6, none⟩) (by simp; omega) _
          have hl := run_loadVar_mid (P := Tryz.prog) _ (w.heap.size + 1 + 1 + 1) 0 25 [.int .i64 0, .int .i64 0, .int .i64 0, .int .i64 0, .int .i64 0, .slice none 0 0, .slice none 0 0] _ (range_of hf) Tryz.underlying25 rfl (by kernel_rfl)
          refine bodyPost_ret (results_cell_tmp (fn := Tryz.f56) rfl _ (by rfl) hl) rfl ?_
          have ha : al = false := NOk.out (by trivial)
          subst ha
          have hD : D = zeroD := HD.out
          subst hD
          exact ⟨_, rfl, PcV.zero _ _, hb4⟩
        · have hN := (hGd.block _ (Array.getElem?_eq_some_iff.1 HN1.out).1).trans HN1.out
          have bA : Below W.heap.size W (W.alloc (.cells #[.int .i64 fk.a, .int .i64 fk.b, .int .i64 fk.c, .int .i64 fk.d, .int .i64 fk.e] 83)) := (Below.refl _ _).alloc (Nat.le_refl _) _
          have hszW : W1.heap.size ≤ W.heap.size := Nat.le_trans HS1.out hGd.size
          have hownA := own_keep (own_keep HOW.out hGd) bA
          have hSA := (HSM.out.keep hGd).keep bA
          have hNA := (bA.block _ (Array.getElem?_eq_some_iff.1 hN).1).trans hN
          obtain ⟨a9, n9, c9, W9, hrun, hO9, hgr9⟩ := run_append_g 22 hownA (by omega) (Nat.le_trans hszW bA.size) HFK.out (alloc_heap_new W (.cells #[.int .i64 fk.a, .int .i64 fk.b, .int .i64 fk.c, .int .i64 fk.d, .int .i64 fk.e] 83))
          have own9 : ∀ g, sv.ownBlock = some g → W1.heap.size ≤ g := fun g h => (hownA.lt g h).1
          have b9 : Below W1.heap.size (W.alloc (.cells #[.int .i64 fk.a, .int .i64 fk.b, .int .i64 fk.c, .int .i64 fk.d, .int .i64 fk.e] 83)) W9 := (Below.refl _ _).grown hgr9 (Nat.le_trans hszW bA.size) own9
          have hN9 := (b9.block _ (by have := HZ7.out; omega)).trans hNA
          have hS9 := hSA.keepB b9 HL7.out
          have bW9 : Below w5.heap.size w5 W9 := (keep_below bW bA).trans (b9.mono (by have := HZ7.out; omega))
          have q5 := cell_of hN (k := 5) rfl
          have x5 := cell_of hN9 (k := 5) rfl
          have y5 : W9.frozen? ⟨w5.heap.size, 5, none⟩ = false := frozen_of hN9
          have t0 := cell_of hp (k := 0) rfl
          have t1 := cell_of hp (k := 1) rfl
          have t2 := cell_of hp (k := 2) rfl
          have t3 := cell_of hp (k := 3) rfl
          have t4 := cell_of hp (k := 4) rfl
          have HO9 := Lib.hid hO9
          have HG9 := Lib.hid hgr9
          have HS9 := Lib.hid hS9
          have HN9 := Lib.hid hN9
          have HBW9 := Lib.hid bW9
          have HB9 := Lib.hid b9
          have HA := Lib.hid bA
          have HGD := Lib.hid hGd
          have HSW := Lib.hid hszW
          clear hO9 hgr9 hS9 hN9 bW9 b9 bA hGd hszW own9 hownA hSA hNA hN bW bw hp
          go_wp2_with (at_builtin; refine Lib.wpList_append_run _ rfl _ _ _ _ rfl _ _ rfl rfl _ _ hrun ?_)
          have hsz9 : W1.heap.size ≤ (W9.setCell ⟨w5.heap.size, 5, none⟩ (.slice a9 n9 c9)).heap.size := by
            have h1 := HB9.out.size
            have h2 := HA.out.size
            have h3 := HSW.out
            have h4 : (W9.setCell ⟨w5.heap.size, 5, none⟩ (.slice a9 n9 c9)).heap.size = W9.heap.size := by simp [World.setCell]
            omega
          exact ⟨⟨k + 1, by omega, by simp, _, HBW9.out.setCell (p := ⟨w5.heap.size, 5, none⟩) (Nat.le_refl _) _, set5_box HN9.out, own_other HO9.out (by have := HZ7.out; omega), slm_set HS9.out (fun p' n' c' h => by have := hF6 p' n' c' h; omega), hsz9, Lib.hid (fun j hj => (by
            by_cases e : j = k
            · subst e; exact HCB.out
            · exact HK.out j (by omega)))⟩, by simp [intOf]; omega⟩
    · obtain rfl : k = n := by omega
      have hAl : al = true := YES.out HK.out
      have bw := keep_below b1 B1
      have q5 := cell_of ((B1.block _ hql.out).trans hq) (k := 5) rfl
      replace hr := (B1.block _ hrl.out).trans hr
      have l4 := Lib.hid (show w.heap.size + 3 < w5.heap.size from hrl.out)
      have nl := Lib.hid (Array.getElem?_eq_some_iff.1 N1).1
      obtain ⟨g5, cap5, rfl⟩ := own_slice hown (by omega)
      have x0 := cell_of N1 (k := 0) rfl
      have x1 := cell_of N1 (k := 1) rfl
      have x2 := cell_of N1 (k := 2) rfl
      have x3 := cell_of N1 (k := 3) rfl
      have x4 := cell_of N1 (k := 4) rfl
      have x5 := cell_of N1 (k := 5) rfl
      have x6 := cell_of N1 (k := 6) rfl
      obtain ⟨z0, z1, z2, z3, z4, z5, z6⟩ := And.intro (cell_of hr (k := 0) rfl) (And.intro (cell_of hr (k := 1) rfl) (And.intro (cell_of hr (k := 2) rfl) (And.intro (cell_of hr (k := 3) rfl) (And.intro (cell_of hr (k := 4) rfl) (And.intro (cell_of hr (k := 5) rfl) (cell_of hr (k := 6) rfl))))))
      have f0 : wr.frozen? ⟨w.heap.size + 3, 0, none⟩ = false := frozen_of hr
      have f1 : wr.frozen? ⟨w.heap.size + 3, 1, none⟩ = false := frozen_of hr
      have f2 : wr.frozen? ⟨w.heap.size + 3, 2, none⟩ = false := frozen_of hr
      have f3 : wr.frozen? ⟨w.heap.size + 3, 3, none⟩ = false := frozen_of hr
      have f4 : wr.frozen? ⟨w.heap.size + 3, 4, none⟩ = false := frozen_of hr
      have f5 : wr.frozen? ⟨w.heap.size + 3, 5, none⟩ = false := frozen_of hr
      have f6 : wr.frozen? ⟨w.heap.size + 3, 6, none⟩ = false := frozen_of hr
      have hlt := (Array.getElem?_eq_some_iff.1 hr).1
      have HO := Lib.hid hown
      have HM := Lib.hid hSM
      have HBW := Lib.hid bw
      have HRR := Lib.hid hr
      clear hq hown hSM bw hr N1 h8 hlt
      go_wp2_with fail
      obtain ⟨WF, hWF⟩ : ∃ WF, ((((((wr.setCell ⟨w.heap.size + 1 + 1 + 1, 0, none⟩ (.int .i64 q.id)).setCell ⟨w.heap.size + 1 + 1 + 1, 1, none⟩ (.int .i64 q.c)).setCell ⟨w.heap.size + 1 + 1 + 1, 2, none⟩ (.int .i64 q.r)).setCell ⟨w.heap.size + 1 + 1 + 1, 3, none⟩ (.int .i64 q.m)).setCell ⟨w.heap.size + 1 + 1 + 1, 4, none⟩ (.int .i64 q.s)).setCell ⟨w.heap.size + 1 + 1 + 1, 5, none⟩ (.slice (some ⟨g5, 0, none⟩) k cap5)).setCell ⟨w.heap.size + 1 + 1 + 1, 6, none⟩ (.slice a6 n6 e6) = WF := ⟨_, rfl⟩
      rw [hWF]
      have hf : WF.heap[w.heap.size + 1 + 1 + 1]? = some (.cells #[.int .i64 q.id, .int .i64 q.c, .int .i64 q.r, .int .i64 q.m, .int .i64 q.s, .slice (some ⟨g5, 0, none⟩) k cap5, .slice a6 n6 e6] 25 (0, 0)) := by
        rw [← hWF]
        exact res7 HRR.out
      have hb4 : Below w.heap.size w WF := by
        rw [← hWF]
        exact ((((((HBW.out.setCell (p := ⟨w.heap.size + 1 + 1 + 1, 0, none⟩) (by simp; omega) _).setCell (p := ⟨w.heap.size + 1 + 1 + 1, 1, none⟩) (by simp; omega) _).setCell (p := ⟨w.heap.size + 1 + 1 + 1, 2, none⟩) (by simp; omega) _).setCell (p := ⟨w.heap.size + 1 + 1 + 1, 3, none⟩) (by simp; omega) _).setCell (p := ⟨w.heap.size + 1 + 1 + 1, 4, none⟩) (by simp; omega) _).setCell (p := ⟨w.heap.size + 1 + 1 + 1, 5, none⟩) (by simp; omega) _).setCell (p := ⟨w.heap.size + 1 + 1 + 1, 6, none⟩) (by simp; omega) _
      have hO4 : WF.ownsRow W1.heap.size 83 5 (.slice (some ⟨g5, 0, none⟩) k cap5) k (rowG F k) := by
        rw [← hWF]
        exact own_other (own_other (own_other (own_other (own_other (own_other (own_other HO.out (by have := l4.out; have := HZ7.out; omega)) (by have := l4.out; have := HZ7.out; omega)) (by have := l4.out; have := HZ7.out; omega)) (by have := l4.out; have := HZ7.out; omega)) (by have := l4.out; have := HZ7.out; omega)) (by have := l4.out; have := HZ7.out; omega)) (by have := l4.out; have := HZ7.out; omega)
      have hM4 : SlM WF (.slice a6 n6 e6) q.M := by
        rw [← hWF]
        refine slm_set (slm_set (slm_set (slm_set (slm_set (slm_set (slm_set HM.out ?_) ?_) ?_) ?_) ?_) ?_) ?_
        all_goals intro p' n' c' h
        all_goals have := hF6 p' n' c' h
        all_goals have := l4.out
        all_goals omega
      have hG4 := DONE.out WF _ _ hO4
      have hl := run_loadVar_mid (P := Tryz.prog) _ (w.heap.size + 1 + 1 + 1) 0 25 [.int .i64 q.id, .int .i64 q.c, .int .i64 q.r, .int .i64 q.m, .int .i64 q.s, .slice (some ⟨g5, 0, none⟩) k cap5, .slice a6 n6 e6] _ (range_of hf) Tryz.underlying25 rfl (by kernel_rfl)
      refine bodyPost_ret (results_cell_tmp (fn := Tryz.f56) rfl _ (by rfl) hl) rfl ?_
      subst hAl
      have hD : D = mgD y q := HD.out
      subst hD
      refine ⟨_, rfl, ⟨_, _, rfl, ?_, hM4, fun p' n' c' h => (by cases h; have := (hO4.lt g5 rfl).1; have := l4.out; have := HZ7.out; show w.heap.size ≤ g5; omega), fun p' n' c' h => (by have := hF6 p' n' c' h; have := l4.out; omega)⟩, hb4⟩
      show SlG WF _ (comL y.G q.G q.G.length)
      rw [HN.out]
      exact hG4

end Go.Proofs.YtcfapbccegijnaaGreat
