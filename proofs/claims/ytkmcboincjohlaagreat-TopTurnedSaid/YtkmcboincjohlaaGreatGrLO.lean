/- The abstract machine, part GrLO. -/
import Derived.Test.YtkmcboincjohlaaGreatGrLN
import Derived.Test.YtkmcboincjohlaaGreatGrLL
import Derived.Test.YtkmcboincjohlaaGreatGrLD
/- Walks: the test that fitting makes. -/
namespace Go.Proofs.YtkmcboincjohlaaGreat
open Go Go.RowKit Go.Proofs Go.Abs

def TestV (bp _be _bm _N : Nat) (vg : Value) (s x : Int) (b : Bool) (y : G5) (a1 a2 a3 : Int) (r : Bool) : Nat → Value → World → Prop
  | 0, v, _ => v = .pointer (some ⟨bp, 5, none⟩)
  | 1, v, _ => v = vg
  | 2, v, _ => v = st s b
  | 3, v, _ => v = .int .i64 x
  | 4, v, _ => v = gg y.a y.b y.c y.d y.e
  | 5, v, _ => v = ms a1 a2 a3
  | 6, v, _ => v = .bool r
  | 7, v, _ => v = .bool (!r)
  | _, v, _ => v = .bool (!r)

theorem TestV.keep {bp be bm N : Nat} {vg : Value} {s x : Int} {b : Bool} {y : G5} {a1 a2 a3 : Int} {r : Bool} : ∀ i v W W', TestV bp be bm N vg s x b y a1 a2 a3 r i v W → Below W.heap.size W W' → TestV bp be bm N vg s x b y a1 a2 a3 r i v W'
  | 0, _, _, _, h, _ => h
  | 1, _, _, _, h, _ => h
  | 2, _, _, _, h, _ => h
  | 3, _, _, _, h, _ => h
  | 4, _, _, _, h, _ => h
  | 5, _, _, _, h, _ => h
  | 6, _, _, _, h, _ => h
  | 7, _, _, _, h, _ => h
  | _ + 8, _, _, _, h, _ => h

set_option maxRecDepth 100000 in
set_option maxHeartbeats 4000000 in
theorem test93_walk (bp be bm : Nat) (vg : Value) (s x : Int) (b : Bool) (y : G5) (a1 a2 a3 : Int) (r : Bool) (w : World)
    (k5 : w.cell? ⟨bp, 5, none⟩ = some vg) (ke : w.cell? ⟨be, 0, none⟩ = some (.int .i64 x)) (km : w.cell? ⟨bm, 0, none⟩ = some (.int .i64 a1) ∧ w.cell? ⟨bm, 1, none⟩ = some (.int .i64 a2) ∧ w.cell? ⟨bm, 2, none⟩ = some (.int .i64 a3))
    (CL : ∀ W, Below w.heap.size w W → Calls Tryz.prog 60 #[vg, st s b, .int .i64 x] W fun e w' => e = .returned (gg y.a y.b y.c y.d y.e) ∧ Below W.heap.size W w')
    (CH : ∀ W, Calls Tryz.prog 59 #[gg y.a y.b y.c y.d y.e, ms a1 a2 a3] W fun e w' => e = .returned (.bool r) ∧ Below W.heap.size W w') :
    Calls Tryz.prog 58 #[st s b, .pointer (some ⟨bp, 0, none⟩), .pointer (some ⟨be, 0, none⟩), .pointer (some ⟨bm, 0, none⟩)] w fun e w' => e = .returned (.bool (!r)) ∧ Below w.heap.size w w' := by
  go_enter Tryz.func58, Tryz.ntmps58
  go_wp2_with fail
  have n0 := st_new w s b
  have b0 : Below w.heap.size w (w.alloc (stObj s b)) := (Below.refl _ _).alloc (Nat.le_refl _) _
  change Code.wp _ _ _ _ (w.alloc (stObj s b))
  obtain ⟨N, hN⟩ : ∃ N, w.heap.size = N := ⟨_, rfl⟩
  have k5 := keep_cell b0 k5
  have ke := keep_cell b0 ke
  have km := And.intro (keep_cell b0 km.1) (And.intro (keep_cell b0 km.2.1) (keep_cell b0 km.2.2))
  replace CL := Lib.hid (fun W (hW : Below (w.alloc (stObj s b)).heap.size (w.alloc (stObj s b)) W) => CL W (keep_below b0 hW))
  rw [hN] at n0
  simp only [hN]
  generalize w.alloc (stObj s b) = w1 at *
  refine wp_region_vals (TestV bp be bm N vg s x b y a1 a2 a3 r) (by kernel_rfl) (by kernel_rfl) TestV.keep ?_ ?_
  · intro i o ho a' W hW hfr hdep
    have f1 : a'.tmps[1]?.getD undef = .pointer (some ⟨bp, 0, none⟩) := Array.getD_eq_getD_getElem?.symm.trans (hfr 1 rfl)
    have f2 : a'.tmps[2]?.getD undef = .pointer (some ⟨be, 0, none⟩) := Array.getD_eq_getD_getElem?.symm.trans (hfr 2 rfl)
    have f3 : a'.tmps[3]?.getD undef = .pointer (some ⟨bm, 0, none⟩) := Array.getD_eq_getD_getElem?.symm.trans (hfr 3 rfl)
    have f4 : a'.tmps[4]?.getD undef = .pointer (some ⟨N, 0, none⟩) := Array.getD_eq_getD_getElem?.symm.trans (hfr 4 rfl)
    have k5 := keep_cell hW k5
    have ke := keep_cell hW ke
    have km := And.intro (keep_cell hW km.1) (And.intro (keep_cell hW km.2.1) (keep_cell hW km.2.2))
    have ks := And.intro (keep_cell hW n0.1) (keep_cell hW n0.2)
    clear hfr
    have hi : i < 9 := by have := (List.getElem?_eq_some_iff.1 ho).1; simpa using this
    obtain rfl | rfl | rfl | rfl | rfl | rfl | rfl | rfl | rfl : i = 0 ∨ i = 1 ∨ i = 2 ∨ i = 3 ∨ i = 4 ∨ i = 5 ∨ i = 6 ∨ i = 7 ∨ i = 8 := by omega
    all_goals simp only [List.getElem?_cons_zero, List.getElem?_cons_succ, Option.some.injEq] at ho
    all_goals subst ho
    · clear hdep k5 ke km ks n0
      refine .inl ⟨_, W, ?_, Below.refl _ _, rfl⟩
      go_simp
    · have d0 : a'.tmps[6]?.getD undef = .pointer (some ⟨bp, 5, none⟩) := Array.getD_eq_getD_getElem?.symm.trans (hdep ⟨0, .data⟩ (by simp) rfl 6 rfl)
      have c0 : W.cell? ⟨bp, 5, none⟩ = some vg := k5
      clear hdep k5 ke km ks n0
      refine .inl ⟨_, W, ?_, Below.refl _ _, rfl⟩
      go_simp
    · have c0 : W.cell? ⟨N, 0, none⟩ = some (.int .i64 s) := ks.1
      have c1 : W.cell? ⟨N, 1, none⟩ = some (.bool b) := ks.2
      clear hdep k5 ke km ks n0
      refine .inl ⟨_, W, ?_, Below.refl _ _, rfl⟩
      go_simp
    · have c0 : W.cell? ⟨be, 0, none⟩ = some (.int .i64 x) := ke
      clear hdep k5 ke km ks n0
      refine .inl ⟨_, W, ?_, Below.refl _ _, rfl⟩
      go_simp
    · have d1 : a'.tmps[7]?.getD undef = vg := Array.getD_eq_getD_getElem?.symm.trans (hdep ⟨1, .data⟩ (by simp) rfl 7 rfl)
      have d2 : a'.tmps[8]?.getD undef = st s b := Array.getD_eq_getD_getElem?.symm.trans (hdep ⟨2, .data⟩ (by simp) rfl 8 rfl)
      have d3 : a'.tmps[9]?.getD undef = .int .i64 x := Array.getD_eq_getD_getElem?.symm.trans (hdep ⟨3, .data⟩ (by simp) rfl 9 rfl)
      clear hdep k5 ke km ks n0
      refine .inr ⟨60, #[vg, st s b, .int .i64 x], W, ?_, Below.refl _ _, (CL.out W hW).mono ?_⟩
      · go_simp
      · rintro e W' ⟨rfl, hb⟩
        exact ⟨_, rfl, hb, rfl⟩
    · have c0 : W.cell? ⟨bm, 0, none⟩ = some (.int .i64 a1) := km.1
      have c1 : W.cell? ⟨bm, 1, none⟩ = some (.int .i64 a2) := km.2.1
      have c2 : W.cell? ⟨bm, 2, none⟩ = some (.int .i64 a3) := km.2.2
      clear hdep k5 ke km ks n0
      refine .inl ⟨_, W, ?_, Below.refl _ _, rfl⟩
      go_simp
    · have d4 : a'.tmps[10]?.getD undef = gg y.a y.b y.c y.d y.e := Array.getD_eq_getD_getElem?.symm.trans (hdep ⟨4, .data⟩ (by simp) rfl 10 rfl)
      have d5 : a'.tmps[11]?.getD undef = ms a1 a2 a3 := Array.getD_eq_getD_getElem?.symm.trans (hdep ⟨5, .data⟩ (by simp) rfl 11 rfl)
      clear hdep k5 ke km ks n0
      refine .inr ⟨59, #[gg y.a y.b y.c y.d y.e, ms a1 a2 a3], W, ?_, Below.refl _ _, (CH W).mono ?_⟩
      · go_simp
      · rintro e W' ⟨rfl, hb⟩
        exact ⟨_, rfl, hb, rfl⟩
    · have d6 : a'.tmps[12]?.getD undef = .bool r := Array.getD_eq_getD_getElem?.symm.trans (hdep ⟨6, .data⟩ (by simp) rfl 12 rfl)
      clear hdep k5 ke km ks n0
      refine .inl ⟨_, W, ?_, Below.refl _ _, rfl⟩
      go_simp
    · have d7 : a'.tmps[13]?.getD undef = .bool (!r) := Array.getD_eq_getD_getElem?.symm.trans (hdep ⟨7, .data⟩ (by simp) rfl 13 rfl)
      clear hdep k5 ke km ks n0
      refine .inl ⟨_, W, ?_, Below.refl _ _, rfl⟩
      go_simp
  · intro W hW
    clear CL CH k5 ke km n0
    simp only [List.map_cons, List.map_nil, VQ]
    rintro _ rfl _ rfl _ rfl _ rfl _ rfl _ rfl _ rfl _ rfl _ rfl
    simp only [List.setIfInBounds_toArray, List.set_cons_zero, List.set_cons_succ, Exit.then]
    clear hN
    go_at_K
    go_wp2
    go_ret
    exact ⟨rfl, keep_below b0 hW⟩

end Go.Proofs.YtkmcboincjohlaaGreat

/- Walks: fitting. -/
namespace Go.Proofs.YtkmcboincjohlaaGreat
open Go Go.RowKit Go.Proofs Go.Abs Go.Shelf

variable {w0 : World} {N g cap : Nat} {D : List (Nat × Bool)} {G : List G5} {L : List (Int × Int)} {pc : Obj} {pv : Value}

/-- The settings that are left when some edges have been looked at. -/
def leftF (G : List G5) (L : List (Int × Int)) (D : List (Nat × Bool)) (pre : List (Fin L.length)) : List (Nat × Bool) :=
  D.filter fun p => pre.all fun x => okM (lay G L.length p.1 p.2 x.1) (m1 L x.1) (m2 L x.1) (m3 L x.1)

theorem leftF_snoc (pre : List (Fin L.length)) (x : Fin L.length) : leftF G L D (pre ++ [x]) = (leftF G L D pre).filter fun p => okM (lay G L.length p.1 p.2 x.1) (m1 L x.1) (m2 L x.1) (m3 L x.1) := by
  unfold leftF
  rw [List.filter_filter]
  congr 1
  funext p
  simp [Bool.and_comm]

theorem leftF_done {pre : List (Fin L.length)} (h : pre.map Fin.val = List.range L.length) : leftF G L D pre = D.filter fun p => fitP G L L.length p.1 p.2 := by
  unfold leftF
  congr 1
  funext p
  unfold fitP
  rw [← h, List.all_map]
  rfl

/-- What the loop of fitting keeps. -/
structure FitI (w0 : World) (N g cap : Nat) (D : List (Nat × Bool)) (G : List G5) (L : List (Int × Int)) (pc : Obj) (pv : Value) (pre : List (Fin L.length)) (W : World) : Prop where
  box : Boxed W (N + 1) 42 (.slice (some ⟨g, 0, none⟩) (leftF G L D pre).length cap)
  row : RowS W g (leftF G L D pre)
  pcs : W.heap[N]? = some pc
  pts : Boxed W (N + 2) 34 pv
  bel : Below w0.heap.size w0 W
  siz : N + 3 ≤ W.heap.size

theorem below_gr {X Y : World} {row : Option Nat} (h : Below w0.heap.size w0 X) (hg : X.grownBy Y row) (hr : ∀ r, row = some r → w0.heap.size ≤ r) : Below w0.heap.size w0 Y :=
  ⟨hg.os.trans h.os, hg.tape.trans h.tape, hg.output.trans h.output, Nat.le_trans h.size hg.size, fun k hk => (hg.block k (by have := h.size; omega) (fun e => by have := hr k e.symm; omega)).trans (h.block k hk)⟩

theorem FitI.own {M : Nat} (hM : w0.heap.size ≤ M) (hpc : pc.isCells = true) : OwnFrom M (FitI w0 N g cap D G L pc pv) := by
  intro pre X Y row h hg hr
  have same : ∀ (k : Nat) (o : Obj), X.heap[k]? = some o → o.isCells = true → Y.heap[k]? = X.heap[k]? := fun k o ho hc =>
    hg.block k (Array.getElem?_eq_some_iff.1 ho).1 (fun e => by
      obtain ⟨-, o', ho', hc'⟩ := hr k e.symm
      rw [ho] at ho'
      cases ho'
      rw [hc] at hc'
      cases hc')
  refine ⟨(same _ _ h.box rfl).trans h.box, ?_, (same _ _ h.pcs hpc).trans h.pcs, (same _ _ h.pts rfl).trans h.pts, below_gr h.bel hg (fun r e => Nat.le_trans hM (hr r e).1), Nat.le_trans h.siz hg.size⟩
  obtain ⟨cur, h1, h2⟩ := h.row
  exact ⟨cur, (same _ _ h1 rfl).trans h1, h2⟩

theorem FitI.grow {pre : List (Fin L.length)} {W W' : World} (h : FitI w0 N g cap D G L pc pv pre W) (hb : Below W.heap.size W W') : FitI w0 N g cap D G L pc pv pre W' :=
  ⟨below_box hb h.box, h.row.keep hb, (hb.block _ (Array.getElem?_eq_some_iff.1 h.pcs).1).trans h.pcs, below_box hb h.pts, h.bel.trans (hb.mono h.bel.size), Nat.le_trans h.siz hb.size⟩

/-- A round: some are left out, and the box says so. -/
theorem FitI.step {pre : List (Fin L.length)} {x : Fin L.length} {W W' : World} (hgN : g < N) (hg0 : w0.heap.size ≤ g) (h : FitI w0 N g cap D G L pc pv pre W) (hg : W.grownBy W' (some g)) (hr : RowS W' g (leftF G L D (pre ++ [x]))) :
    FitI w0 N g cap D G L pc pv (pre ++ [x]) (W'.setCell ⟨N + 1, 0, none⟩ (.slice (some ⟨g, 0, none⟩) (leftF G L D (pre ++ [x])).length cap)) ∧ KeepN w0.heap.size (N + 2) W (W'.setCell ⟨N + 1, 0, none⟩ (.slice (some ⟨g, 0, none⟩) (leftF G L D (pre ++ [x])).length cap)) ∧
      KeepsFrom (N + 3) W (W'.setCell ⟨N + 1, 0, none⟩ (.slice (some ⟨g, 0, none⟩) (leftF G L D (pre ++ [x])).length cap)) := by
  obtain ⟨v, hv⟩ : ∃ v, Value.slice (some ⟨g, 0, none⟩) (leftF G L D (pre ++ [x])).length cap = v := ⟨_, rfl⟩
  rw [hv]
  have b1 : Boxed W' (N + 1) 42 (.slice (some ⟨g, 0, none⟩) (leftF G L D pre).length cap) := h.box.kept hg (by simp; omega)
  have same : ∀ k, k < W.heap.size → k ≠ g → k ≠ N + 1 → (W'.setCell ⟨N + 1, 0, none⟩ v).heap[k]? = W.heap[k]? := fun k hk h1 h2 =>
    (Below.heap_setCell _ _ _ k h2).trans (hg.block k hk (fun e => h1 (by simpa using e)))
  have hsz : W.heap.size ≤ (W'.setCell ⟨N + 1, 0, none⟩ v).heap.size := by have := hg.size; simpa [World.setCell] using this
  have hN := h.bel.size
  have hs := h.siz
  obtain ⟨cg, hcg, -⟩ := h.row
  refine ⟨⟨?_, ?_, (same N (by omega) (by omega) (by omega)).trans h.pcs, (same (N + 2) (by omega) (by omega) (by omega)).trans h.pts, ?_, Nat.le_trans hs hsz⟩, ⟨hsz, ?_, ?_⟩, ⟨hsz, ?_⟩⟩
  · rw [hv]
    exact b1.set v
  · obtain ⟨cur, h1, h2⟩ := hr
    exact ⟨cur, (Below.heap_setCell _ _ _ g (by show g ≠ N + 1; omega)).trans h1, h2⟩
  · exact (below_gr h.bel hg (fun r e => by cases e; exact hg0)).setCell (by show w0.heap.size ≤ N + 1; omega) _
  · intro k hk
    rcases hk with hk | rfl
    · exact same k (by omega) (by omega) (by omega)
    · exact same _ (by omega) (by omega) (by omega)
  · intro k c z hk
    refine (same k (Array.getElem?_eq_some_iff.1 hk).1 ?_ ?_).trans hk
    · rintro rfl
      rw [hk] at hcg
      cases hcg
    · rintro rfl
      rw [show W.heap[N + 1]? = _ from h.box] at hk
      cases hk
  · intro k o hk ho hoc
    refine (same k (Array.getElem?_eq_some_iff.1 ho).1 (by omega) (by omega)).trans ho

end Go.Proofs.YtkmcboincjohlaaGreat

/- Walks: fitting, whole. -/
namespace Go.Proofs.YtkmcboincjohlaaGreat
open Go Go.RowKit Go.Proofs Go.Abs Go.Shelf

attribute [local go_sem] Oper.semAt_some

theorem lay_ok {G : List G5} {L : List (Int × Int)} {s x : Nat} {b : Bool} (hg : vGs G = true) (hn : G.length = L.length) (hs : s < L.length) (hx : x < L.length) : (lay G L.length s b x).ok = true := by
  have h1 : ∀ k, k < L.length → (gz G k).ok = true := by
    unfold vGs at hg
    rw [Bool.and_eq_true] at hg
    have h3 : badG G = false := by simpa using hg.2
    unfold badG at h3
    rw [List.any_eq_false] at h3
    intro k hk
    simpa using h3 k (List.mem_range.2 (by omega))
  unfold lay
  cases b
  · exact h1 _ (kf_lt hs hx)
  · have a1 := h1 _ (kb_lt hs hx)
    have a2 := h1 _ (pr_lt (kb_lt hs hx))
    unfold G5.ok vG at a1 a2 ⊢
    simp only [if_true, Bool.and_eq_true, decide_eq_true_eq] at a1 a2 ⊢
    exact ⟨⟨⟨⟨⟨⟨a1.1.1.1.1.1.1, a1.1.1.1.1.1.2⟩, a1.1.1.1.1.2⟩, a2.1.1.1.2⟩, a2.1.1.2⟩, a2.1.2⟩, a2.2⟩

set_option maxRecDepth 100000 in
set_option maxHeartbeats 8000000 in
theorem fitting_same (w0 : World) (id c r m s : Int) (vg vm : Value) (G : List G5) (b off capl g cap : Nat) (L : List (Int × Int)) (D : List (Nat × Bool)) (hv : vOut L = true) (hG : SlG w0 vg G) (hgs : vGs G = true) (hp : PtsAt w0 b off L) (hn : G.length = L.length) (w : World)
    (hb0 : Below w0.heap.size w0 w) (hg0 : w0.heap.size ≤ g) (hgc : D.length ≤ cap) (hD : D.length ≤ 1000) (hDs : ∀ p ∈ D, p.1 < L.length) (hr : RowS w g D) :
    Calls Tryz.prog 27 #[pcs id c r m s vg vm, .slice (some ⟨b, off, none⟩) L.length capl, .slice (some ⟨g, 0, none⟩) D.length cap] w fun e w' =>
      e = .returned (.slice (some ⟨g, 0, none⟩) (D.filter fun p => fitP G L L.length p.1 p.2).length cap) ∧ RowS w' g (D.filter fun p => fitP G L L.length p.1 p.2) ∧ Below w0.heap.size w0 w' := by
  obtain ⟨h3, h24, -⟩ := vOut_n hv
  have hblt : b < w0.heap.size := hp.lt (by omega)
  have hglt := hr.lt
  obtain ⟨ag, gcap, hvg⟩ := hG.shape
  refine (callsIn_wide (n := 6)).1 ?_
  have h1 : 1 ≤ 6 := by omega
  refine callsIn_of_wp_marks Tryz.func27 rfl trivial ?_ rfl
  simp only [Tryz.ntmps27, List.size_toArray, List.length_cons, List.length_nil, Nat.reduceAdd, Nat.reduceSub, Array.replicate_succ, Array.replicate_zero, List.push_toArray, List.append_toArray, List.nil_append, List.cons_append]
  obtain ⟨N, hN⟩ : ∃ N, w.heap.size = N := ⟨_, rfl⟩
  have hx : ((w.alloc (pcsObj id c r m s vg vm)).alloc (.cells #[.slice (some ⟨g, 0, none⟩) D.length cap] 42)).cell? ⟨w.heap.size, 5, none⟩ = some (.slice ag L.length gcap) := by
    rw [← hn, ← hvg]
    exact cell_of ((alloc_heap_old _ _ (by simp)).trans (pcs_new w id c r m s vg vm)) rfl
  gi_wp2_with (first
    | (refine ⟨trivial, ?_⟩; gi_at_call 20; refine (measured_in 5 _ _ _ _).mono ?_; rintro e w' ⟨rfl, rfl⟩))
  obtain ⟨pv, hpv⟩ : ∃ pv, Value.slice (some ⟨b, off, none⟩) L.length capl = pv := ⟨_, rfl⟩
  rw [hpv]
  obtain ⟨W0, hW0⟩ : ∃ W0, ((w.alloc (pcsObj id c r m s vg vm)).alloc (.cells #[.slice (some ⟨g, 0, none⟩) D.length cap] 42)).alloc (.cells #[pv] 34) = W0 := ⟨_, rfl⟩
  have hW0' := hW0
  rw [hvg, hn] at hW0'
  rw [hW0']
  clear hW0' hx
  have hsz : W0.heap.size = N + 3 := by rw [← hW0]; simp [hN]
  have hwN : w0.heap.size ≤ N := by rw [← hN]; exact hb0.size
  have hF0 : FitI w0 N g cap D G L (pcsObj id c r m s vg vm) pv [] W0 := by
    have e0 : leftF G L D [] = D := by unfold leftF; rw [List.filter_eq_self]; intro p _; rfl
    have hbw : Below w.heap.size w W0 := by rw [← hW0]; exact (((Below.refl _ _).alloc (by simp) _).alloc (by simp) _).alloc (by simp; omega) _
    refine ⟨?_, ?_, ?_, ?_, hb0.trans (hbw.mono hb0.size), by omega⟩
    · rw [e0, ← hW0, ← hN]
      have := (Boxed.new (w.alloc (pcsObj id c r m s vg vm)) 42 (.slice (some ⟨g, 0, none⟩) D.length cap)).alloc (.cells #[pv] 34)
      rwa [World.size_alloc] at this
    · rw [e0]; exact hr.keep hbw
    · rw [← hW0, ← hN]; exact (alloc_heap_old _ _ (by simp; omega)).trans ((alloc_heap_old _ _ (by simp)).trans (alloc_heap_new _ _))
    · rw [← hW0, ← hN]
      have := Boxed.new ((w.alloc (pcsObj id c r m s vg vm)).alloc (.cells #[.slice (some ⟨g, 0, none⟩) D.length cap] 42)) 34 pv
      rwa [World.size_alloc, World.size_alloc] at this
  have hp0 : PtsAt W0 b off L := hp.keep hF0.bel
  have hgN : g < N := by rw [← hN]; exact hglt
  have hG24 : G.length ≤ 24 := by omega
  clear hW0 hr
  refine wpIn_rangeFunc_ownH rfl h1 (gf := 50) (lb := #[.pointer (some ⟨N + 1 + 1, 0, none⟩)]) rfl trivial (enters_of Tryz.func50 (by kernel_rfl) rfl)
    (measured_stopsF 5 (by omega) (N + 1 + 1) w0.heap.size b off capl L hv hblt W0 (by omega) (by rw [hpv]; exact hF0.pts.cell) hp0)
    KeepN.trans (fun W l o o' hl h hc _ => KeepN.put (by omega) (by omega) h hc) (Below.refl _ _) (fun _ => rfl)
    (FitI w0 N g cap D G L (pcsObj id c r m s vg vm) pv)
    (fun _ _ _ => False)
    (FitI.own (by omega) rfl)
    (fun _ _ _ _ _ hs _ _ => hs)
    hF0
    (fun x a' W => ∃ be bm, N + 2 < be ∧ N + 2 < bm ∧ Boxed W be 3 (.int .i64 (x.1 : Nat)) ∧ BoxS 77 W bm (ms (m1 L x.1) (m2 L x.1) (m3 L x.1)) ∧ a' = { tmps := #[pcs id c r m s (Value.slice ag L.length gcap) vm, pv, .slice (some ⟨g, 0, none⟩) D.length cap, .pointer (some ⟨N, 0, none⟩), undef, .pointer (some ⟨N + 1, 0, none⟩), .slice none 0 0, .pointer (some ⟨be, 0, none⟩), .pointer (some ⟨bm, 0, none⟩), .pointer (some ⟨N, 5, none⟩), .slice ag L.length gcap, .int .i64 (L.length : Nat), pv, .int .i64 (L.length : Nat), .bool false, pv, .func (.func 50) #[] #[.pointer (some ⟨N + 1 + 1, 0, none⟩)], .int .i64 (x.1 : Nat), ms (m1 L x.1) (m2 L x.1) (m3 L x.1), undef, undef, undef, undef], defers := [] })
    (fun x a' _ X Y row hs hg hr => by
      obtain ⟨be, bm, h1, h2, h3, h4, h5⟩ := hs
      refine ⟨be, bm, h1, h2, ?_, h4.own hg hr, h5⟩
      exact (hg.block be h3.lt (fun e' => by
        obtain ⟨_, o, ho, hc⟩ := hr be e'.symm
        rw [show X.heap[be]? = _ from h3] at ho; cases ho; cases hc)).trans h3)
    ?assign ?body ?done ?stop
  case assign =>
    rintro l pre x W K hI hK
    have HI := Lib.hid hI
    have hsW := hI.siz
    clear hI
    gi_wp2
    have hb2 : Below W.heap.size W ((W.alloc (.cells #[.int .i64 (x.1 : Nat)] 3)).alloc (.cells #[.int .i64 (m1 L x.1), .int .i64 (m2 L x.1), .int .i64 (m3 L x.1)] 77)) := ((Below.refl _ _).alloc (Nat.le_refl _) _).alloc (by simp) _
    refine hK _ _ (keepsFrom_below _ hb2) (KeepN.below hb2 (by omega) (by omega)) (HI.out.grow hb2) ⟨W.heap.size, W.heap.size + 1, by omega, by omega, (Boxed.new W 3 _).alloc _, ?_, rfl⟩
    have := BoxS.new 77 (W.alloc (.cells #[.int .i64 (x.1 : Nat)] 3)) #[.int .i64 (m1 L x.1), .int .i64 (m2 L x.1), .int .i64 (m3 L x.1)]
    rwa [World.size_alloc] at this
  case body =>
    rintro l pre x a' W hl _ hI ⟨be, bm, hbe, hbm, xe, xm, rfl⟩ hlt
    have hDl : (leftF G L D pre).length ≤ D.length := List.length_filter_le _ _
    have hsub : ∀ p ∈ leftF G L D pre, p.1 < L.length := fun p hp => hDs p (List.mem_filter.1 hp).1
    have TT : Tests 58 #[.pointer (some ⟨N, 0, none⟩), .pointer (some ⟨be, 0, none⟩), .pointer (some ⟨bm, 0, none⟩)] (fun p => okM (lay G L.length p.1 p.2 x.1) (m1 L x.1) (m2 L x.1) (m3 L x.1)) g W (leftF G L D pre) := by
      rintro W' ⟨sp, bp⟩ hgW hpm
      have hs := hsub _ hpm
      have hbW := below_gr hI.bel hgW (fun r e => by cases e; exact hg0)
      have hG' := hG.keep hbW
      have sz := hgW.size
      have kk : ∀ k o, W.heap[k]? = some o → k ≠ g → W'.heap[k]? = some o := fun k o ho hk => (hgW.block k (Array.getElem?_eq_some_iff.1 ho).1 (fun e => hk (by simpa using e))).trans ho
      obtain ⟨cm, em, hm⟩ := xm
      cases em
      have q1 := kk _ _ hI.pcs (by omega)
      have q2 := kk be _ xe (by omega)
      have q3 := kk bm _ hm (by omega)
      refine test93_walk N be bm vg sp (x.1 : Nat) bp (lay G L.length sp bp x.1) _ _ _ _ W' (cell_of q1 rfl) (cell_of q2 rfl) ⟨cell_of q3 rfl, cell_of q3 rfl, cell_of q3 rfl⟩ ?_ ?_
      · intro W2 hb2
        have := laidOn_any vg G sp x.1 bp W2 (hG'.keep hb2) hG24 (by omega) (by omega) (by omega)
        rwa [hn] at this
      · intro W2
        refine holds_any (lay G L.length sp bp x.1) _ _ _ ?_ W2
        exact lay_ok hgs hn hs x.2
    have CD := delete93_any (.pointer (some ⟨N, 0, none⟩)) (.pointer (some ⟨be, 0, none⟩)) (.pointer (some ⟨bm, 0, none⟩)) (fun p => okM (lay G L.length p.1 p.2 x.1) (m1 L x.1) (m2 L x.1) (m3 L x.1)) g cap (leftF G L D pre) (by omega) (by omega) W hI.row TT
    rw [← leftF_snoc] at CD
    have cS := hI.box.cell
    have fS := hI.box.frozen
    have HI := Lib.hid hI
    have sW := hI.siz
    clear hI TT hsub
    gi_wp2_with (first
      | (refine ⟨trivial, ?_⟩; gi_at_call 57; refine (CallsIn.inRound l (callsIn_wide.2 CD)).mono ?_; rintro e w1 ⟨rfl, hr1, hg1⟩
         have cS1 := (HI.out.box.kept hg1 (by simp; omega)).cell
         have fS1 := (HI.out.box.kept hg1 (by simp; omega)).frozen))
    obtain ⟨f1, f2, f3⟩ := HI.out.step hgN hg0 hg1 hr1
    exact ⟨by rw [hsz]; exact f3, f2, f1⟩
  case done =>
    rintro Dd ks W hDd hks hI hK
    have cS := hI.box.cell
    have hrow := hI.row
    rw [leftF_done hks] at cS hrow
    have hbel := hI.bel
    clear hI
    gi_wp2
    refine ⟨by simp, .inl ⟨_, _, rfl, run_takeDeferred hK, ?_⟩⟩
    refine ⟨_, by simp [results, Tryz.f27, go_sem], rfl, ?_, ?_⟩
    · obtain ⟨cur, h1, h2⟩ := hrow
      refine ⟨cur, ?_, h2⟩
      rw [World.putObj_heap_other (fun e => by subst e; rw [h1] at hK; cases hK)]
      exact h1
    · exact hbel.trans (belowK_b (w := w0) (by omega) W Dd _ _ (by omega) hK rfl rfl)
  case stop =>
    rintro D c pre W _ _ h _
    exact h.elim

end Go.Proofs.YtkmcboincjohlaaGreat

/- Walks: Fits and Settings of the program. -/
namespace Go.Proofs.YtkmcboincjohlaaGreat
open Go Go.RowKit Go.Proofs Go.Abs Go.Shelf

/-- A row of one's own as a block that holds settings. -/
theorem row_of_own {W : World} {B : Nat} {v : Value} {D : List (Nat × Bool)} (h : W.ownsRow B 48 2 v D.length (encS D)) (hD : 0 < D.length) : ∃ g cap, v = .slice (some ⟨g, 0, none⟩) D.length cap ∧ B ≤ g ∧ D.length ≤ cap ∧ RowS W g D := by
  rcases h.2 with ⟨-, h2⟩ | ⟨g, cap, cur, rfl, e2, e3, e4, e5, e6, e7⟩
  · omega
  · refine ⟨g, cap, rfl, e2, e4, cur, e3, fun j hj => ?_⟩
    have : (cur.toList.take (D.length * 2))[j]? = (encS D)[j]? := by rw [e7]
    rw [List.getElem?_take, if_pos hj] at this
    simpa using this

theorem st_row (w : World) (s : Nat) (b : Bool) : RowS (w.alloc (stObj s b)) w.heap.size [(s, b)] :=
  ⟨_, alloc_heap_new _ _, fun j hj => by
    rcases (show j = 0 ∨ j = 1 by simp at hj; omega) with rfl | rfl <;> simp [encS]⟩

set_option maxRecDepth 100000 in
set_option maxHeartbeats 4000000 in
theorem fitting_other (id c r m s : Int) (vg vm pv sv : Value) (ag al as_ : Option Addr) (gn ln dn gc lc dc : Nat) (hg : vg = .slice ag gn gc) (hp : pv = .slice al ln lc) (hs : sv = .slice as_ dn dc) (hn : gn ≠ ln) (w : World) :
    Calls Tryz.prog 27 #[pcs id c r m s vg vm, pv, sv] w fun e w' => e = .returned (.slice none 0 0) ∧ Below w.heap.size w w' := by
  subst hg hp hs
  have hb : Below w.heap.size w ((w.alloc (pcsObj id c r m s (.slice ag gn gc) vm)).alloc (.cells #[.slice as_ dn dc] 42)) := ((Below.refl _ _).alloc (Nat.le_refl _) _).alloc (by simp) _
  have hx : ((w.alloc (pcsObj id c r m s (.slice ag gn gc) vm)).alloc (.cells #[.slice as_ dn dc] 42)).cell? ⟨w.heap.size, 5, none⟩ = some (.slice ag gn gc) :=
    cell_of ((alloc_heap_old _ _ (by simp)).trans (pcs_new w id c r m s _ vm)) rfl
  have hne : ((gn : Int) != (ln : Int)) = true := by rw [bne_iff_ne]; omega
  go_enter Tryz.func27, Tryz.ntmps27
  go_wp2
  go_ret
  exact ⟨rfl, hb⟩

/-- What Fits answers: the error, whether it fits. -/
def fitsE (p : Bool) (G : List G5) (L : List (Int × Int)) (sh : Int) : Int := if p = true then (if vset sh G.length = true ∧ vOut L = true then 0 else 1) else 30
def fitsV (p : Bool) (G : List G5) (L : List (Int × Int)) (sh : Int) (b : Bool) : Bool := p && vset sh G.length && vOut L && decide (G.length = L.length) && fitP G L L.length sh.toNat b

theorem pcs_st (w : World) (id c r m s : Int) (vg vm : Value) (sh : Int) (b : Bool) : ((w.alloc (pcsObj id c r m s vg vm)).alloc (stObj sh b)).heap[w.heap.size]? = some (pcsObj id c r m s vg vm) ∧ ((w.alloc (pcsObj id c r m s vg vm)).alloc (stObj sh b)).heap[w.heap.size + 1]? = some (stObj sh b) := by
  refine ⟨(alloc_heap_old _ _ (by simp)).trans (alloc_heap_new _ _), ?_⟩
  have := alloc_heap_new (w.alloc (pcsObj id c r m s vg vm)) (stObj sh b); rwa [World.size_alloc] at this

set_option maxRecDepth 100000 in
set_option maxHeartbeats 4000000 in
theorem fits12_any (id c r m s : Int) (vg vm pv : Value) (G : List G5) (M : List M3) (L : List (Int × Int)) (sh : Int) (b : Bool) (w : World) (hG : SlG w vg G) (hM : SlM w vm M) (hL : SlV w pv L) :
    Calls Tryz.prog 14 #[pcs id c r m s vg vm, pv, st sh b] w fun e w' => e = .returned (.tuple #[.bool (fitsV (vP id c r m s G M) G L sh b), .int .i64 (fitsE (vP id c r m s G M) G L sh)]) ∧ Below w.heap.size w w' := by
  have b0 : Below w.heap.size w ((w.alloc (pcsObj id c r m s vg vm)).alloc (stObj sh b)) := ((Below.refl _ _).alloc (Nat.le_refl _) _).alloc (by simp) _
  obtain ⟨hp, hq⟩ := pcs_st w id c r m s vg vm sh b
  have CS := fun W (hb : Below w.heap.size w W) => checkSet_any id c r m s vg vm G M sh b W (hG.keep hb) (hM.keep hb)
  have CO := fun W (hb : Below w.heap.size w W) => vOut_sl (hL.keep hb)
  obtain ⟨W0, hW0⟩ : ∃ W0, (w.alloc (pcsObj id c r m s vg vm)).alloc (stObj sh b) = W0 := ⟨_, rfl⟩
  have g0 : W0.cell? ⟨w.heap.size, 0, none⟩ = some (.int .i64 id) := by rw [← hW0]; exact cell_of hp rfl
  have g1 : W0.cell? ⟨w.heap.size, 1, none⟩ = some (.int .i64 c) := by rw [← hW0]; exact cell_of hp rfl
  have g2 : W0.cell? ⟨w.heap.size, 2, none⟩ = some (.int .i64 r) := by rw [← hW0]; exact cell_of hp rfl
  have g3 : W0.cell? ⟨w.heap.size, 3, none⟩ = some (.int .i64 m) := by rw [← hW0]; exact cell_of hp rfl
  have g4 : W0.cell? ⟨w.heap.size, 4, none⟩ = some (.int .i64 s) := by rw [← hW0]; exact cell_of hp rfl
  have g5 : W0.cell? ⟨w.heap.size, 5, none⟩ = some vg := by rw [← hW0]; exact cell_of hp rfl
  have g6 : W0.cell? ⟨w.heap.size, 6, none⟩ = some vm := by rw [← hW0]; exact cell_of hp rfl
  have s0 : W0.cell? ⟨w.heap.size + 1, 0, none⟩ = some (.int .i64 sh) := by rw [← hW0]; exact cell_of hq rfl
  have s1 : W0.cell? ⟨w.heap.size + 1, 1, none⟩ = some (.bool b) := by rw [← hW0]; exact cell_of hq rfl
  rw [hW0] at b0 hp hq
  have C1 := CS W0 b0
  obtain ⟨pb, hpb⟩ : ∃ p, vP id c r m s G M = p := ⟨_, rfl⟩
  rw [hpb] at C1 ⊢
  clear CS
  by_cases hok : pb = true ∧ vset sh G.length = true
  · obtain ⟨rfl, hvs⟩ := hok
    rw [hvs, if_pos rfl, if_pos rfl] at C1
    cases hvo : vOut L
    · rw [show fitsV true G L sh b = false by unfold fitsV; simp [hvo], show fitsE true G L sh = 1 by unfold fitsE; simp [hvo]]
      clear hpb hvs hG hM hL
      rw [hvo] at CO
      go_enter Tryz.func14, Tryz.ntmps14
      go_wp2_with (first
        | (go_at_call 30; with_reducible refine C1.mono ?_; rintro e w1 ⟨rfl, hb1⟩
           have b1 := keep_below b0 hb1
           clear hW0 b0 hb1)
        | (go_at_call 19; with_reducible refine (CO _ b1).mono ?_; rintro e w2 ⟨rfl, hb2⟩
           have b2 := keep_below b1 hb2))
      go_ret2
      exact ⟨rfl, b2⟩
    · have hvG : vGs G = true := by
        unfold vP at hpb
        simp only [Bool.and_eq_true] at hpb
        exact hpb.1.2
      obtain ⟨bL, off, capl, rfl, hpt⟩ := vOut_pts hL hvo
      rw [show fitsE true G L sh = 0 by unfold fitsE; simp [hvo, hvs]]
      rw [hvo] at CO
      have hvs' := hvs
      simp only [vset, Bool.and_eq_true, decide_eq_true_eq] at hvs'
      obtain ⟨⟨⟨a1, a2⟩, a3⟩, a4⟩ := hvs'
      obtain ⟨k, rfl⟩ : ∃ k : Nat, sh = (k : Int) := ⟨sh.toNat, by omega⟩
      obtain ⟨ag, gcap, hvg⟩ := hG.shape
      have CF : ∀ W, Below w.heap.size w W → Calls Tryz.prog 27 #[pcs id c r m s vg vm, .slice (some ⟨bL, off, none⟩) L.length capl, .slice (some ⟨W.heap.size, 0, none⟩) 1 1] (W.alloc (stObj k b)) fun e w' =>
          (∃ a n cp, e = .returned (.slice a n cp) ∧ (0 < n ↔ fitsV true G L k b = true)) ∧ Below w.heap.size w w' := by
        intro W hW
        have hW1 : Below w.heap.size w (W.alloc (stObj k b)) := hW.alloc hW.size _
        by_cases hn : G.length = L.length
        · refine (fitting_same w id c r m s vg vm G bL off capl W.heap.size 1 L [(k, b)] hvo hG hvG hpt hn (W.alloc (stObj k b)) hW1 hW.size (by simp) (by simp) (by intro p hp; simp at hp; subst hp; show k < _; omega) (st_row W k b)).mono ?_
          rintro e w' ⟨he, -, hb⟩
          refine ⟨⟨_, _, _, he, ?_⟩, hb⟩
          unfold fitsV
          rw [hvs, hvo, decide_eq_true hn]
          simp only [Bool.true_and, Int.toNat_natCast]
          cases hf : fitP G L L.length k b <;> simp [hf]
        · refine (fitting_other id c r m s vg vm _ _ ag (some ⟨bL, off, none⟩) (some ⟨W.heap.size, 0, none⟩) G.length L.length 1 gcap capl 1 hvg rfl rfl hn (W.alloc (stObj k b))).mono ?_
          rintro e w' ⟨he, hb⟩
          refine ⟨⟨_, _, _, he, ?_⟩, keep_below hW1 hb⟩
          unfold fitsV
          rw [decide_eq_false hn]
          simp
      obtain ⟨f, hf⟩ : ∃ f, fitsV true G L k b = f := ⟨_, rfl⟩
      rw [hf] at CF ⊢
      clear hpb hvs hG hM hL hpt hvG hvg hf a1 a2 a3 a4
      go_enter Tryz.func14, Tryz.ntmps14
      go_wp2_with (first
        | (go_at_call 30; with_reducible refine C1.mono ?_; rintro e w1 ⟨rfl, hb1⟩
           have b1 := keep_below b0 hb1
           have g0 := keep_cell hb1 g0
           have g1 := keep_cell hb1 g1
           have g2 := keep_cell hb1 g2
           have g3 := keep_cell hb1 g3
           have g4 := keep_cell hb1 g4
           have g5 := keep_cell hb1 g5
           have g6 := keep_cell hb1 g6
           have s0 := keep_cell hb1 s0
           have s1 := keep_cell hb1 s1
           clear hW0 b0 hb1)
        | (go_at_call 19; with_reducible refine (CO _ b1).mono ?_; rintro e w2 ⟨rfl, hb2⟩
           have b2 := keep_below b1 hb2
           have g0 := keep_cell hb2 g0
           have g1 := keep_cell hb2 g1
           have g2 := keep_cell hb2 g2
           have g3 := keep_cell hb2 g3
           have g4 := keep_cell hb2 g4
           have g5 := keep_cell hb2 g5
           have g6 := keep_cell hb2 g6
           have s0 := keep_cell hb2 s0
           have s1 := keep_cell hb2 s1
           clear hb2 b1)
        | (go_at_call 27; with_reducible refine (CF _ b2).mono ?_; rintro e w3 ⟨⟨a, n, cp, rfl, hn⟩, b3⟩))
      go_ret2
      refine ⟨?_, b3⟩
      congr 4
  · have hc : ∃ E : Int, (if pb = true then if vset sh G.length = true then (0 : Int) else 1 else 30) = E ∧ (E == 0) = false ∧ fitsE pb G L sh = E := by
      refine ⟨_, rfl, ?_, ?_⟩
      · cases pb <;> simp at hok ⊢
        simp [hok]
      · unfold fitsE
        cases pb
        · rfl
        · have : vset sh G.length = false := by simpa using hok
          simp [this]
    obtain ⟨E, h1, h2, h3⟩ := hc
    have h4 : fitsV pb G L sh b = false := by
      unfold fitsV
      cases pb
      · rfl
      · have : vset sh G.length = false := by simpa using hok
        simp [this]
    rw [h1] at C1
    rw [h3, h4]
    have h5 : (E != 0) = true := by simpa using h2
    clear hok h1 h2 h3 h4 hpb CO hG hM hL
    go_enter Tryz.func14, Tryz.ntmps14
    go_wp2_with (first
      | (go_at_call 30; with_reducible refine C1.mono ?_; rintro e w1 ⟨rfl, hb1⟩
         have b1 := keep_below b0 hb1
         clear hW0 b0 hb1))
    go_ret2
    exact ⟨rfl, b1⟩

end Go.Proofs.YtkmcboincjohlaaGreat
