/- The abstract machine, part GrLL. -/
import Derived.Test.YtkmcboincjohlaaGreatGrLD
import Derived.Test.YtkmcboincjohlaaGreatGrLK
/- Walks: laidOn. -/
namespace Go.Proofs.YtkmcboincjohlaaGreat
open Go Go.RowKit Go.Proofs

set_option maxHeartbeats 2000000 in
theorem laidOn_forth (v : Value) (G : List G5) (sh e : Int) (w : World) (hG : SlG w v G) (h : vset sh G.length = true) (h0 : 0 ≤ e) (h1 : e < G.length) (k : Nat) (hk : Plain.ed (Plain.inv sh false G.length) false G.length e = (k : Int)) (hkn : k < G.length) :
    Calls Tryz.prog 60 #[v, st sh false, .int .i64 e] w fun x w' => x = .returned (gg (gz G k).a (gz G k).b (gz G k).c (gz G k).d (gz G k).e) ∧ Below w.heap.size w w' := by
  obtain ⟨a, cap, rfl⟩ := hG.shape
  obtain ⟨bb, off, rfl, q0, q1, q2, q3, q4⟩ := hG.at hkn
  have hv : vset (Plain.inv sh false G.length) G.length = true := by
    have hh := h
    simp only [vset, Bool.and_eq_true, decide_eq_true_eq] at hh ⊢
    obtain ⟨⟨⟨a1, a2⟩, a3⟩, a4⟩ := hh
    have := Plain.inv_range (b := false) a3 a4
    exact ⟨⟨⟨a1, a2⟩, this.1⟩, this.2⟩
  have CI := fun w => inverse_any sh G.length false w h
  have CE := fun w => edgeP_any (Plain.inv sh false G.length) G.length e false w hv h0 h1
  rw [hk] at CE
  generalize Plain.inv sh false G.length = u at CI CE
  have hkn' : (k : Int) < (G.length : Int) := by omega
  generalize G.length = n at *
  generalize gz G k = g at *
  obtain ⟨ga, gb, gc, gd, ge⟩ := g
  simp only at q0 q1 q2 q3 q4 ⊢
  have hb0 : bb < w.heap.size := lt_of_cell q0
  clear hG hk hv h
  obtain ⟨X, hX⟩ : ∃ X, (w.alloc (stObj sh false)).alloc (.cells #[.int .i64 0, .int .i64 0, .int .i64 0, .int .i64 0, .int .i64 0] 82) = X := ⟨_, rfl⟩
  have B0 : Below w.heap.size w X := by rw [← hX]; exact ((Below.refl _ _).alloc (Nat.le_refl _) _).alloc (by simp) _
  have nX : X.heap.size = w.heap.size + 2 := by rw [← hX]; simp
  have hs : X.heap[w.heap.size]? = some (stObj sh false) := by rw [← hX]; exact (alloc_heap_old _ _ (by simp)).trans (alloc_heap_new _ _)
  have s0 : X.cell? ⟨w.heap.size, 0, none⟩ = some (.int .i64 sh) := cell_of hs rfl
  have s1 : X.cell? ⟨w.heap.size, 1, none⟩ = some (.bool false) := cell_of hs rfl
  have hr : X.heap[w.heap.size + 1]? = some (.cells #[.int .i64 0, .int .i64 0, .int .i64 0, .int .i64 0, .int .i64 0] 82) := by
    have := alloc_heap_new (w.alloc (stObj sh false)) (.cells #[.int .i64 0, .int .i64 0, .int .i64 0, .int .i64 0, .int .i64 0] 82)
    rw [World.size_alloc] at this; rw [← hX]; exact this
  go_enter Tryz.func60, Tryz.ntmps60
  go_wp2_with (first
    | (go_at_call 97; with_reducible refine (CI _).mono ?_; rintro x w1 ⟨rfl, hb1⟩
       try rw [hX] at hb1
       have B1 := keep_below B0 hb1
       have n1 : w.heap.size + 2 ≤ w1.heap.size := by have := hb1.size; omega
       have hs1 : w1.heap[w.heap.size]? = some (stObj sh false) := (hb1.block _ (by omega)).trans hs
       have hr1 : w1.heap[w.heap.size + 1]? = some (.cells #[.int .i64 0, .int .i64 0, .int .i64 0, .int .i64 0, .int .i64 0] 82) := (hb1.block _ (by omega)).trans hr
       clear hb1 hr hs s0 s1 B0)
    | (go_at_call 66; with_reducible refine (CE _).mono ?_; rintro x w2 ⟨rfl, hb2⟩
       have B3 := keep_below (B1.alloc (by omega) (stObj u false)) hb2
       have n3 : w.heap.size + 3 ≤ w2.heap.size := by have := hb2.size; simp at this; omega
       have hs3 : w2.heap[w.heap.size]? = some (stObj sh false) := (hb2.block _ (by simp; omega)).trans ((alloc_heap_old _ _ (by omega)).trans hs1)
       have hr3 : w2.heap[w.heap.size + 1]? = some (.cells #[.int .i64 0, .int .i64 0, .int .i64 0, .int .i64 0, .int .i64 0] 82) := (hb2.block _ (by simp; omega)).trans ((alloc_heap_old _ _ (by omega)).trans hr1)
       have t0 := keep_cell B3 q0
       have t1 := keep_cell B3 q1
       have t2 := keep_cell B3 q2
       have t3 := keep_cell B3 q3
       have t4 := keep_cell B3 q4
       have fl : (w2.alloc (.cells #[.int .i64 ga, .int .i64 gb, .int .i64 gc, .int .i64 gd, .int .i64 ge] 82)).cell? ⟨w.heap.size, 1, none⟩ = some (.bool false) := cell_of ((alloc_heap_old _ _ (by omega)).trans hs3) rfl
       have f2 : w2.cell? ⟨w.heap.size, 1, none⟩ = some (.bool false) := cell_of hs3 rfl
       have hz : (w2.alloc (.cells #[.int .i64 ga, .int .i64 gb, .int .i64 gc, .int .i64 gd, .int .i64 ge] 82)).heap[w.heap.size + 1]? = some (.cells #[.int .i64 0, .int .i64 0, .int .i64 0, .int .i64 0, .int .i64 0] 82) := (alloc_heap_old _ _ (by omega)).trans hr3
       have z0 : (w2.alloc (.cells #[.int .i64 ga, .int .i64 gb, .int .i64 gc, .int .i64 gd, .int .i64 ge] 82)).cell? ⟨w.heap.size + 1, 0, none⟩ = some (.int .i64 0) := cell_of hz rfl
       have y0 : (w2.alloc (.cells #[.int .i64 ga, .int .i64 gb, .int .i64 gc, .int .i64 gd, .int .i64 ge] 82)).frozen? ⟨w.heap.size + 1, 0, none⟩ = false := frozen_of hz
       have z1 : (w2.alloc (.cells #[.int .i64 ga, .int .i64 gb, .int .i64 gc, .int .i64 gd, .int .i64 ge] 82)).cell? ⟨w.heap.size + 1, 1, none⟩ = some (.int .i64 0) := cell_of hz rfl
       have y1 : (w2.alloc (.cells #[.int .i64 ga, .int .i64 gb, .int .i64 gc, .int .i64 gd, .int .i64 ge] 82)).frozen? ⟨w.heap.size + 1, 1, none⟩ = false := frozen_of hz
       have z2 : (w2.alloc (.cells #[.int .i64 ga, .int .i64 gb, .int .i64 gc, .int .i64 gd, .int .i64 ge] 82)).cell? ⟨w.heap.size + 1, 2, none⟩ = some (.int .i64 0) := cell_of hz rfl
       have y2 : (w2.alloc (.cells #[.int .i64 ga, .int .i64 gb, .int .i64 gc, .int .i64 gd, .int .i64 ge] 82)).frozen? ⟨w.heap.size + 1, 2, none⟩ = false := frozen_of hz
       have z3 : (w2.alloc (.cells #[.int .i64 ga, .int .i64 gb, .int .i64 gc, .int .i64 gd, .int .i64 ge] 82)).cell? ⟨w.heap.size + 1, 3, none⟩ = some (.int .i64 0) := cell_of hz rfl
       have y3 : (w2.alloc (.cells #[.int .i64 ga, .int .i64 gb, .int .i64 gc, .int .i64 gd, .int .i64 ge] 82)).frozen? ⟨w.heap.size + 1, 3, none⟩ = false := frozen_of hz
       have z4 : (w2.alloc (.cells #[.int .i64 ga, .int .i64 gb, .int .i64 gc, .int .i64 gd, .int .i64 ge] 82)).cell? ⟨w.heap.size + 1, 4, none⟩ = some (.int .i64 0) := cell_of hz rfl
       have y4 : (w2.alloc (.cells #[.int .i64 ga, .int .i64 gb, .int .i64 gc, .int .i64 gd, .int .i64 ge] 82)).frozen? ⟨w.heap.size + 1, 4, none⟩ = false := frozen_of hz
       clear hb2 hr1 hs1 B1))
  have hf : ((((((w2.alloc (.cells #[.int .i64 ga, .int .i64 gb, .int .i64 gc, .int .i64 gd, .int .i64 ge] 82)).setCell ⟨w.heap.size + 1, 0, none⟩ (.int .i64 ga)).setCell ⟨w.heap.size + 1, 1, none⟩ (.int .i64 gb)).setCell ⟨w.heap.size + 1, 2, none⟩ (.int .i64 gc)).setCell ⟨w.heap.size + 1, 3, none⟩ (.int .i64 gd)).setCell ⟨w.heap.size + 1, 4, none⟩ (.int .i64 ge)).heap[w.heap.size + 1]? = some (.cells #[.int .i64 ga, .int .i64 gb, .int .i64 gc, .int .i64 gd, .int .i64 ge] 82) :=
    setCell_heap _ (setCell_heap _ (setCell_heap _ (setCell_heap _ (setCell_heap _ hz))))
  have hl := run_loadVar_mid (P := Tryz.prog) _ (w.heap.size + 1) 0 82 [.int .i64 ga, .int .i64 gb, .int .i64 gc, .int .i64 gd, .int .i64 ge] _ (range_of hf) Tryz.underlying82 rfl (by kernel_rfl)
  refine bodyPost_ret (results_cell (fn := Tryz.f60) rfl _ (by rfl) hl) rfl ?_
  exact ⟨rfl, (((((B3.alloc (by omega) _).setCell (by simp) _).setCell (by simp) _).setCell (by simp) _).setCell (by simp) _).setCell (by simp) _⟩

end Go.Proofs.YtkmcboincjohlaaGreat

/- Walks: laidOn of a setting with its back. -/
namespace Go.Proofs.YtkmcboincjohlaaGreat
open Go Go.RowKit Go.Proofs

set_option maxHeartbeats 2000000 in
theorem laidOn_back (v : Value) (G : List G5) (sh e : Int) (w : World) (hG : SlG w v G) (h : vset sh G.length = true) (h0 : 0 ≤ e) (h1 : e < G.length) (k k' : Nat) (hk' : ((k : Int) + G.length - 1) % G.length = (k' : Int)) (hkn' : k' < G.length) (hk : Plain.ed (Plain.inv sh true G.length) true G.length e = (k : Int)) (hkn : k < G.length) (hn : G.length ≤ 24) :
    Calls Tryz.prog 60 #[v, st sh true, .int .i64 e] w fun x w' => x = .returned (gg (gz G k).a (gz G k).b (gz G k').c (gz G k').d (gz G k').e) ∧ Below w.heap.size w w' := by
  obtain ⟨a, cap, rfl⟩ := hG.shape
  obtain ⟨bb, off, rfl, q0, q1, q2, q3, q4⟩ := hG.at hkn
  obtain ⟨bb', off', eo, p0, p1, p2, p3, p4⟩ := hG.at hkn'
  cases eo
  have hv : vset (Plain.inv sh true G.length) G.length = true := by
    have hh := h
    simp only [vset, Bool.and_eq_true, decide_eq_true_eq] at hh ⊢
    obtain ⟨⟨⟨a1, a2⟩, a3⟩, a4⟩ := hh
    have := Plain.inv_range (b := true) a3 a4
    exact ⟨⟨⟨a1, a2⟩, this.1⟩, this.2⟩
  have CI := fun w => inverse_any sh G.length true w h
  have CE := fun w => edgeP_any (Plain.inv sh true G.length) G.length e true w hv h0 h1
  rw [hk] at CE
  generalize Plain.inv sh true G.length = u at CI CE
  have hkn2 : (k : Int) < (G.length : Int) := by omega
  have hkn3 : (k' : Int) < (G.length : Int) := by omega
  generalize G.length = n at *
  generalize gz G k = g at *
  obtain ⟨ga, gb, gc, gd, ge⟩ := g
  generalize gz G k' = g' at *
  obtain ⟨ha, hb, hc, hd, he⟩ := g'
  simp only at q0 q1 q2 q3 q4 p0 p1 p2 p3 p4 ⊢
  have hb0 : bb < w.heap.size := lt_of_cell q0
  clear hG hk hv h
  have ew1 : IntKind.i64.wrap ((k : Int) + n) = (k : Int) + n := wi64 _ (by omega)
  have ew2 : IntKind.i64.wrap ((k : Int) + n - 1) = (k : Int) + n - 1 := wi64 _ (by omega)
  obtain ⟨X, hX⟩ : ∃ X, (w.alloc (stObj sh true)).alloc (.cells #[.int .i64 0, .int .i64 0, .int .i64 0, .int .i64 0, .int .i64 0] 82) = X := ⟨_, rfl⟩
  have B0 : Below w.heap.size w X := by rw [← hX]; exact ((Below.refl _ _).alloc (Nat.le_refl _) _).alloc (by simp) _
  have nX : X.heap.size = w.heap.size + 2 := by rw [← hX]; simp
  have hs : X.heap[w.heap.size]? = some (stObj sh true) := by rw [← hX]; exact (alloc_heap_old _ _ (by simp)).trans (alloc_heap_new _ _)
  have s0 : X.cell? ⟨w.heap.size, 0, none⟩ = some (.int .i64 sh) := cell_of hs rfl
  have s1 : X.cell? ⟨w.heap.size, 1, none⟩ = some (.bool true) := cell_of hs rfl
  have hr : X.heap[w.heap.size + 1]? = some (.cells #[.int .i64 0, .int .i64 0, .int .i64 0, .int .i64 0, .int .i64 0] 82) := by
    have := alloc_heap_new (w.alloc (stObj sh true)) (.cells #[.int .i64 0, .int .i64 0, .int .i64 0, .int .i64 0, .int .i64 0] 82)
    rw [World.size_alloc] at this; rw [← hX]; exact this
  go_enter Tryz.func60, Tryz.ntmps60
  go_wp2_with (first
    | (go_at_call 97; with_reducible refine (CI _).mono ?_; rintro x w1 ⟨rfl, hb1⟩
       try rw [hX] at hb1
       have B1 := keep_below B0 hb1
       have n1 : w.heap.size + 2 ≤ w1.heap.size := by have := hb1.size; omega
       have hs1 : w1.heap[w.heap.size]? = some (stObj sh true) := (hb1.block _ (by omega)).trans hs
       have hr1 : w1.heap[w.heap.size + 1]? = some (.cells #[.int .i64 0, .int .i64 0, .int .i64 0, .int .i64 0, .int .i64 0] 82) := (hb1.block _ (by omega)).trans hr
       clear hb1 hr hs s0 s1 B0)
    | (go_at_call 66; with_reducible refine (CE _).mono ?_; rintro x w2 ⟨rfl, hb2⟩
       have B3 := keep_below (B1.alloc (by omega) (stObj u true)) hb2
       have n3 : w.heap.size + 3 ≤ w2.heap.size := by have := hb2.size; simp at this; omega
       have hs3 : w2.heap[w.heap.size]? = some (stObj sh true) := (hb2.block _ (by simp; omega)).trans ((alloc_heap_old _ _ (by omega)).trans hs1)
       have hr3 : w2.heap[w.heap.size + 1]? = some (.cells #[.int .i64 0, .int .i64 0, .int .i64 0, .int .i64 0, .int .i64 0] 82) := (hb2.block _ (by simp; omega)).trans ((alloc_heap_old _ _ (by omega)).trans hr1)
       have t0 := keep_cell B3 q0
       have t1 := keep_cell B3 q1
       have t2 := keep_cell B3 q2
       have t3 := keep_cell B3 q3
       have t4 := keep_cell B3 q4
       have u0 := keep_cell B3 p0
       have u1 := keep_cell B3 p1
       have u2 := keep_cell B3 p2
       have u3 := keep_cell B3 p3
       have u4 := keep_cell B3 p4
       have f2 : w2.cell? ⟨w.heap.size, 1, none⟩ = some (.bool true) := cell_of hs3 rfl
       have fl : (w2.alloc (.cells #[.int .i64 ga, .int .i64 gb, .int .i64 gc, .int .i64 gd, .int .i64 ge] 82)).cell? ⟨w.heap.size, 1, none⟩ = some (.bool true) := cell_of ((alloc_heap_old _ _ (by omega)).trans hs3) rfl
       have lb : bb < w2.heap.size := by omega
       clear hb2 hr1 hs1 B1))
  obtain ⟨Z, hZ⟩ : ∃ Z, (w2.alloc (.cells #[.int .i64 ga, .int .i64 gb, .int .i64 gc, .int .i64 gd, .int .i64 ge] 82)).alloc (.cells #[.int .i64 ha, .int .i64 hb, .int .i64 hc, .int .i64 hd, .int .i64 he] 82) = Z := ⟨_, rfl⟩
  have hg : Z.heap[w2.heap.size]? = some (.cells #[.int .i64 ga, .int .i64 gb, .int .i64 gc, .int .i64 gd, .int .i64 ge] 82) := by rw [← hZ]; exact (alloc_heap_old _ _ (by simp)).trans (alloc_heap_new _ _)
  have hh : Z.heap[w2.heap.size + 1]? = some (.cells #[.int .i64 ha, .int .i64 hb, .int .i64 hc, .int .i64 hd, .int .i64 he] 82) := by
    have := alloc_heap_new (w2.alloc (.cells #[.int .i64 ga, .int .i64 gb, .int .i64 gc, .int .i64 gd, .int .i64 ge] 82)) (.cells #[.int .i64 ha, .int .i64 hb, .int .i64 hc, .int .i64 hd, .int .i64 he] 82); rw [World.size_alloc] at this; rw [← hZ]; exact this
  have hz : Z.heap[w.heap.size + 1]? = some (.cells #[.int .i64 0, .int .i64 0, .int .i64 0, .int .i64 0, .int .i64 0] 82) := by rw [← hZ]; exact (alloc_heap_old _ _ (by simp; omega)).trans ((alloc_heap_old _ _ (by omega)).trans hr3)
  have B4 : Below w.heap.size w Z := by rw [← hZ]; exact (B3.alloc (by omega) _).alloc (by simp; omega) _
  rw [hZ]
  obtain ⟨g0, eg⟩ : ∃ g0, w2.heap.size = g0 := ⟨_, rfl⟩
  have hg0 : w.heap.size + 3 ≤ g0 := by omega
  rw [eg] at hg hh
  simp only [eg]
  clear hZ B3 t0 t1 t2 t3 t4 u0 u1 u2 u3 u4 f2 fl
  have g0' : Z.cell? ⟨g0, 0, none⟩ = some (.int .i64 ga) := cell_of hg rfl
  have h0' : Z.cell? ⟨g0 + 1, 0, none⟩ = some (.int .i64 ha) := cell_of hh rfl
  have k0' : Z.frozen? ⟨g0, 0, none⟩ = false := frozen_of hg
  have g1' : Z.cell? ⟨g0, 1, none⟩ = some (.int .i64 gb) := cell_of hg rfl
  have h1' : Z.cell? ⟨g0 + 1, 1, none⟩ = some (.int .i64 hb) := cell_of hh rfl
  have k1' : Z.frozen? ⟨g0, 1, none⟩ = false := frozen_of hg
  have g2' : Z.cell? ⟨g0, 2, none⟩ = some (.int .i64 gc) := cell_of hg rfl
  have h2' : Z.cell? ⟨g0 + 1, 2, none⟩ = some (.int .i64 hc) := cell_of hh rfl
  have k2' : Z.frozen? ⟨g0, 2, none⟩ = false := frozen_of hg
  have g3' : Z.cell? ⟨g0, 3, none⟩ = some (.int .i64 gd) := cell_of hg rfl
  have h3' : Z.cell? ⟨g0 + 1, 3, none⟩ = some (.int .i64 hd) := cell_of hh rfl
  have k3' : Z.frozen? ⟨g0, 3, none⟩ = false := frozen_of hg
  have g4' : Z.cell? ⟨g0, 4, none⟩ = some (.int .i64 ge) := cell_of hg rfl
  have h4' : Z.cell? ⟨g0 + 1, 4, none⟩ = some (.int .i64 he) := cell_of hh rfl
  have k4' : Z.frozen? ⟨g0, 4, none⟩ = false := frozen_of hg
  go_region
  obtain ⟨V, hV⟩ : ∃ V, (((Z.setCell ⟨g0, 2, none⟩ (.int .i64 hc)).setCell ⟨g0, 3, none⟩ (.int .i64 hd)).setCell ⟨g0, 4, none⟩ (.int .i64 he)).drew = V := ⟨_, rfl⟩
  have vg : V.heap[g0]? = some (.cells #[.int .i64 ga, .int .i64 gb, .int .i64 hc, .int .i64 hd, .int .i64 he] 82) := by rw [← hV]; exact setCell_heap _ (setCell_heap _ (setCell_heap _ hg))
  have vz : V.heap[w.heap.size + 1]? = some (.cells #[.int .i64 0, .int .i64 0, .int .i64 0, .int .i64 0, .int .i64 0] 82) := by
    rw [← hV]
    show (((Z.setCell ⟨g0, 2, none⟩ (.int .i64 hc)).setCell ⟨g0, 3, none⟩ (.int .i64 hd)).setCell ⟨g0, 4, none⟩ (.int .i64 he)).heap[w.heap.size + 1]? = _
    rw [Below.heap_setCell _ _ _ _ (by simp; omega), Below.heap_setCell _ _ _ _ (by simp; omega), Below.heap_setCell _ _ _ _ (by simp; omega)]
    exact hz
  have B5 : Below w.heap.size w V := by rw [← hV]; exact (((B4.setCell (by simp; omega) _).setCell (by simp; omega) _).setCell (by simp; omega) _).drew
  rw [hV]
  clear hV B4 hg hh hz g0' h0' k0' g1' h1' k1' g2' h2' k2' g3' h3' k3' g4' h4' k4'
  have v0 : V.cell? ⟨g0, 0, none⟩ = some (.int .i64 ga) := cell_of vg rfl
  have z0 : V.cell? ⟨w.heap.size + 1, 0, none⟩ = some (.int .i64 0) := cell_of vz rfl
  have y0 : V.frozen? ⟨w.heap.size + 1, 0, none⟩ = false := frozen_of vz
  have v1 : V.cell? ⟨g0, 1, none⟩ = some (.int .i64 gb) := cell_of vg rfl
  have z1 : V.cell? ⟨w.heap.size + 1, 1, none⟩ = some (.int .i64 0) := cell_of vz rfl
  have y1 : V.frozen? ⟨w.heap.size + 1, 1, none⟩ = false := frozen_of vz
  have v2 : V.cell? ⟨g0, 2, none⟩ = some (.int .i64 hc) := cell_of vg rfl
  have z2 : V.cell? ⟨w.heap.size + 1, 2, none⟩ = some (.int .i64 0) := cell_of vz rfl
  have y2 : V.frozen? ⟨w.heap.size + 1, 2, none⟩ = false := frozen_of vz
  have v3 : V.cell? ⟨g0, 3, none⟩ = some (.int .i64 hd) := cell_of vg rfl
  have z3 : V.cell? ⟨w.heap.size + 1, 3, none⟩ = some (.int .i64 0) := cell_of vz rfl
  have y3 : V.frozen? ⟨w.heap.size + 1, 3, none⟩ = false := frozen_of vz
  have v4 : V.cell? ⟨g0, 4, none⟩ = some (.int .i64 he) := cell_of vg rfl
  have z4 : V.cell? ⟨w.heap.size + 1, 4, none⟩ = some (.int .i64 0) := cell_of vz rfl
  have y4 : V.frozen? ⟨w.heap.size + 1, 4, none⟩ = false := frozen_of vz
  simp only [Exit.then]
  go_at_K
  go_wp2
  have hf : (((((V.setCell ⟨w.heap.size + 1, 0, none⟩ (.int .i64 ga)).setCell ⟨w.heap.size + 1, 1, none⟩ (.int .i64 gb)).setCell ⟨w.heap.size + 1, 2, none⟩ (.int .i64 hc)).setCell ⟨w.heap.size + 1, 3, none⟩ (.int .i64 hd)).setCell ⟨w.heap.size + 1, 4, none⟩ (.int .i64 he)).heap[w.heap.size + 1]? = some (.cells #[.int .i64 ga, .int .i64 gb, .int .i64 hc, .int .i64 hd, .int .i64 he] 82) :=
    setCell_heap _ (setCell_heap _ (setCell_heap _ (setCell_heap _ (setCell_heap _ vz))))
  have hl := run_loadVar_mid (P := Tryz.prog) _ (w.heap.size + 1) 0 82 [.int .i64 ga, .int .i64 gb, .int .i64 hc, .int .i64 hd, .int .i64 he] _ (range_of hf) Tryz.underlying82 rfl (by kernel_rfl)
  refine bodyPost_ret (results_cell (fn := Tryz.f60) rfl _ (by rfl) hl) rfl ?_
  exact ⟨rfl, ((((B5.setCell (by simp) _).setCell (by simp) _).setCell (by simp) _).setCell (by simp) _).setCell (by simp) _⟩

end Go.Proofs.YtkmcboincjohlaaGreat

/- Fitting, plain: both ways of asking whether gauges hold of an outline's measures are one. -/
namespace Go.Proofs.YtkmcboincjohlaaGreat
open Go Go.RowKit Go.Proofs Go.Abs

/-- Edges that a setting lays on x, and those on which it lays them. -/
def kf (n sh x : Nat) : Nat := if sh ≤ x then x - sh else x + n - sh
def kb (n sh x : Nat) : Nat := if x ≤ sh then sh - x else sh + n - x
def fw (n sh i : Nat) : Nat := if sh + i < n then sh + i else sh + i - n
def pr (n k : Nat) : Nat := if k = 0 then n - 1 else k - 1

theorem kf_lt {n sh x : Nat} (h : sh < n) (hx : x < n) : kf n sh x < n := by unfold kf; split <;> omega
theorem kb_lt {n sh x : Nat} (h : sh < n) (hx : x < n) : kb n sh x < n := by unfold kb; split <;> omega
theorem pr_lt {n k : Nat} (h : k < n) : pr n k < n := by unfold pr; split <;> omega

/-- The gauge that is laid on edge x. -/
def lay (G : List G5) (n sh : Nat) (b : Bool) (x : Nat) : G5 :=
  if b then ⟨(gz G (kb n sh x)).a, (gz G (kb n sh x)).b, (gz G (pr n (kb n sh x))).c, (gz G (pr n (kb n sh x))).d, (gz G (pr n (kb n sh x))).e⟩ else gz G (kf n sh x)

/-- A gauge holds of measures. -/
def okM (g : G5) (a b c : Int) : Bool := wi a g.a g.b && wi b g.c g.d && (decide (g.e = 0) || decide (g.e = c))

def fitP (G : List G5) (L : List (Int × Int)) (n s : Nat) (b : Bool) : Bool := (List.range n).all fun x => okM (lay G n s b x) (m1 L x) (m2 L x) (m3 L x)

/-- What laidOn answers. -/
theorem lay_forth {n sh x : Nat} (h : sh < n) (hx : x < n) : Plain.ed (Plain.inv sh false n) false n x = (kf n sh x : Int) := by
  unfold Plain.ed Plain.inv kf
  simp only [Bool.false_eq_true, if_false]
  (repeat' split) <;> omega
theorem lay_back {n sh x : Nat} (_h : sh < n) (hx : x < n) : Plain.ed (Plain.inv sh true n) true n x = (kb n sh x : Int) := by
  unfold Plain.ed Plain.inv kb
  simp only [if_true]
  (repeat' split) <;> omega
theorem pr_mod {n k : Nat} (h : k < n) : ((k : Int) + n - 1) % n = (pr n k : Int) := by
  unfold pr
  split
  · rw [Plain.mod_lo] <;> omega
  · rw [Plain.mod_hi] <;> omega

theorem laidOn_any (v : Value) (G : List G5) (sh x : Nat) (b : Bool) (w : World) (hG : SlG w v G) (hn : G.length ≤ 24) (h3 : 3 ≤ G.length) (h : sh < G.length) (hx : x < G.length) :
    Calls Tryz.prog 60 #[v, st sh b, .int .i64 x] w fun e w' => e = .returned (gg (lay G G.length sh b x).a (lay G G.length sh b x).b (lay G G.length sh b x).c (lay G G.length sh b x).d (lay G G.length sh b x).e) ∧ Below w.heap.size w w' := by
  have hv : vset (sh : Int) G.length = true := by
    unfold vset
    simp only [Bool.and_eq_true, decide_eq_true_eq]
    omega
  cases b
  · exact laidOn_forth v G sh x w hG hv (by omega) (by omega) _ (lay_forth h hx) (kf_lt h hx)
  · exact laidOn_back v G sh x w hG hv (by omega) (by omega) _ _ (pr_mod (kb_lt h hx)) (pr_lt (kb_lt h hx)) (lay_back h hx) (kb_lt h hx) hn

end Go.Proofs.YtkmcboincjohlaaGreat

/- Walks: the reference's bend and measure, of any setting; Holds. -/
namespace Go.Proofs.YtkmcboincjohlaaGreat
open Go Go.RowKit Go.Proofs Go.Abs

theorem BoxS.of {t : TypeId} {W : World} {B : Nat} {c : Array Value} (h : W.heap[B]? = some (.cells c t)) : BoxS t W B (.agg c) := ⟨c, rfl, h⟩
end Go.Proofs.YtkmcboincjohlaaGreat
