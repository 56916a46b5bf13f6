/- The abstract machine, part LL. -/
import Derived.Test.YtcfapbccegijnaaGreatLD
import Derived.Test.YtcfapbccegijnaaGreatLK
/- Walks: laidOn. -/
namespace Go.Proofs.YtcfapbccegijnaaGreat
open Go Go.RowKit Go.Proofs

set_option maxHeartbeats 2000000 in
theorem laidOn_forth (v : Value) (G : List G5) (sh e : Int) (w : World) (hG : SlG w v G) (h : vset sh G.length = true) (h0 : 0 ≤ e) (h1 : e < G.length) (k : Nat) (hk : Plain.ed (Plain.inv sh false G.length) false G.length e = (k : Int)) (hkn : k < G.length) :
    Calls Tryz.prog 95 #[v, st sh false, .int .i64 e] w fun x w' => x = .returned (gg (gz G k).a (gz G k).b (gz G k).c (gz G k).d (gz G k).e) ∧ Below w.heap.size w w' := by
  obtain ⟨a, cap, rfl⟩ := hG.shape
  obtain ⟨bb, off, rfl, q0, q1, q2, q3, q4⟩ := hG.at hkn
  have hv : vset (Plain.inv sh false G.length) G.length = true := by
    have hh := h
    simp only [vset, Bool.and_eq_true, decide_eq_true_eq] at hh ⊢
    obtain ⟨⟨⟨a1, a2⟩, a3⟩, a4⟩ := hh
    have := Plain.inv_range (b := false) a3 a4
    exact ⟨⟨⟨a1, a2⟩, this.1⟩, this.2⟩
  have CI := fun w => inverse_any sh G.length false w h
  have CE := fun w => edgeP_any (Plain.inv sh false G.length) G.length e false w hv h0 h1
  rw [hk] at CE
  generalize Plain.inv sh false G.length = u at CI CE
  have hkn' : (k : Int) < (G.length : Int) := by omega
  generalize G.length = n at *
  generalize gz G k = g at *
  obtain ⟨ga, gb, gc, gd, ge⟩ := g
  simp only at q0 q1 q2 q3 q4 ⊢
  have hb0 : bb < w.heap.size := lt_of_cell q0
  clear hG hk hv h
  obtain ⟨X, hX⟩ : ∃ X, (w.alloc (stObj sh false)).alloc (.cells #[.int .i64 0, .int .i64 0, .int .i64 0, .int .i64 0, .int .i64 0] 83) = X := ⟨_, rfl⟩
  have B0 : Below w.heap.size w X := by rw [← hX]; exact ((Below.refl _ _).alloc (Nat.le_refl _) _).alloc (by simp) _
  have nX : X.heap.size = w.heap.size + 2 := by rw [← hX]; simp
  have hs : X.heap[w.heap.size]? = some (stObj sh false) := by rw [← hX]; exact (alloc_heap_old _ _ (by simp)).trans (alloc_heap_new _ _)
  have s0 : X.cell? ⟨w.heap.size, 0, none⟩ = some (.int .i64 sh) := cell_of hs rfl
  have s1 : X.cell? ⟨w.heap.size, 1, none⟩ = some (.bool false) := cell_of hs rfl
  have hr : X.heap[w.heap.size + 1]? = some (.cells #[.int .i64 0, .int .i64 0, .int .i64 0, .int .i64 0, .int .i64 0] 83) := by
    have := alloc_heap_new (w.alloc (stObj sh false)) (.cells #[.int .i64 0, .int .i64 0, .int .i64 0, .int .i64 0, .int .i64 0] 83)
    rw [World.size_alloc] at this; rw [← hX]; exact this
  go_enter Tryz.func95, Tryz.ntmps95
  go_wp2_with (first
    | (go_at_call 38; with_reducible refine (CI _).mono ?_; rintro x w1 ⟨rfl, hb1⟩
       try rw [hX] at hb1
       have B1 := keep_below B0 hb1
       have n1 : w.heap.size + 2 ≤ w1.heap.size := by have := hb1.size; omega
       have hs1 : w1.heap[w.heap.size]? = some (stObj sh false) := (hb1.block _ (by omega)).trans hs
       have hr1 : w1.heap[w.heap.size + 1]? = some (.cells #[.int .i64 0, .int .i64 0, .int .i64 0, .int .i64 0, .int .i64 0] 83) := (hb1.block _ (by omega)).trans hr
       clear hb1 hr hs s0 s1 B0)
    | (go_at_call 100; with_reducible refine (CE _).mono ?_; rintro x w2 ⟨rfl, hb2⟩
       have B3 := keep_below (B1.alloc (by omega) (stObj u false)) hb2
       have n3 : w.heap.size + 3 ≤ w2.heap.size := by have := hb2.size; simp at this; omega
       have hs3 : w2.heap[w.heap.size]? = some (stObj sh false) := (hb2.block _ (by simp; omega)).trans ((alloc_heap_old _ _ (by omega)).trans hs1)
       have hr3 : w2.heap[w.heap.size + 1]? = some (.cells #[.int .i64 0, .int .i64 0, .int .i64 0, .int .i64 0, .int .i64 0] 83) := (hb2.block _ (by simp; omega)).trans ((alloc_heap_old _ _ (by omega)).trans hr1)
       have t0 := keep_cell B3 q0
       have t1 := keep_cell B3 q1
       have t2 := keep_cell B3 q2
       have t3 := keep_cell B3 q3
       have t4 := keep_cell B3 q4
       have fl : (w2.alloc (.cells #[.int .i64 ga, .int .i64 gb, .int .i64 gc, .int .i64 gd, .int .i64 ge] 83)).cell? ⟨w.heap.size, 1, none⟩ = some (.bool false) := cell_of ((alloc_heap_old _ _ (by omega)).trans hs3) rfl
       have f2 : w2.cell? ⟨w.heap.size, 1, none⟩ = some (.bool false) := cell_of hs3 rfl
       have hz : (w2.alloc (.cells #[.int .i64 ga, .int .i64 gb, .int .i64 gc, .int .i64 gd, .int .i64 ge] 83)).heap[w.heap.size + 1]? = some (.cells #[.int .i64 0, .int .i64 0, .int .i64 0, .int .i64 0, .int .i64 0] 83) := (alloc_heap_old _ _ (by omega)).trans hr3
       have z0 : (w2.alloc (.cells #[.int .i64 ga, .int .i64 gb, .int .i64 gc, .int .i64 gd, .int .i64 ge] 83)).cell? ⟨w.heap.size + 1, 0, none⟩ = some (.int .i64 0) := cell_of hz rfl
       have y0 : (w2.alloc (.cells #[.int .i64 ga, .int .i64 gb, .int .i64 gc, .int .i64 gd, .int .i64 ge] 83)).frozen? ⟨w.heap.size + 1, 0, none⟩ = false := frozen_of hz
       have z1 : (w2.alloc (.cells #[.int .i64 ga, .int .i64 gb, .int .i64 gc, .int .i64 gd, .int .i64 ge] 83)).cell? ⟨w.heap.size + 1, 1, none⟩ = some (.int .i64 0) := cell_of hz rfl
       have y1 : (w2.alloc (.cells #[.int .i64 ga, .int .i64 gb, .int .i64 gc, .int .i64 gd, .int .i64 ge] 83)).frozen? ⟨w.heap.size + 1, 1, none⟩ = false := frozen_of hz
       have z2 : (w2.alloc (.cells #[.int .i64 ga, .int .i64 gb, .int .i64 gc, .int .i64 gd, .int .i64 ge] 83)).cell? ⟨w.heap.size + 1, 2, none⟩ = some (.int .i64 0) := cell_of hz rfl
       have y2 : (w2.alloc (.cells #[.int .i64 ga, .int .i64 gb, .int .i64 gc, .int .i64 gd, .int .i64 ge] 83)).frozen? ⟨w.heap.size + 1, 2, none⟩ = false := frozen_of hz
       have z3 : (w2.alloc (.cells #[.int .i64 ga, .int .i64 gb, .int .i64 gc, .int .i64 gd, .int .i64 ge] 83)).cell? ⟨w.heap.size + 1, 3, none⟩ = some (.int .i64 0) := cell_of hz rfl
       have y3 : (w2.alloc (.cells #[.int .i64 ga, .int .i64 gb, .int .i64 gc, .int .i64 gd, .int .i64 ge] 83)).frozen? ⟨w.heap.size + 1, 3, none⟩ = false := frozen_of hz
       have z4 : (w2.alloc (.cells #[.int .i64 ga, .int .i64 gb, .int .i64 gc, .int .i64 gd, .int .i64 ge] 83)).cell? ⟨w.heap.size + 1, 4, none⟩ = some (.int .i64 0) := cell_of hz rfl
       have y4 : (w2.alloc (.cells #[.int .i64 ga, .int .i64 gb, .int .i64 gc, .int .i64 gd, .int .i64 ge] 83)).frozen? ⟨w.heap.size + 1, 4, none⟩ = false := frozen_of hz
       clear hb2 hr1 hs1 B1))
  have hf : ((((((w2.alloc (.cells #[.int .i64 ga, .int .i64 gb, .int .i64 gc, .int .i64 gd, .int .i64 ge] 83)).setCell ⟨w.heap.size + 1, 0, none⟩ (.int .i64 ga)).setCell ⟨w.heap.size + 1, 1, none⟩ (.int .i64 gb)).setCell ⟨w.heap.size + 1, 2, none⟩ (.int .i64 gc)).setCell ⟨w.heap.size + 1, 3, none⟩ (.int .i64 gd)).setCell ⟨w.heap.size + 1, 4, none⟩ (.int .i64 ge)).heap[w.heap.size + 1]? = some (.cells #[.int .i64 ga, .int .i64 gb, .int .i64 gc, .int .i64 gd, .int .i64 ge] 83) :=
    setCell_heap _ (setCell_heap _ (setCell_heap _ (setCell_heap _ (setCell_heap _ hz))))
  have hl := run_loadVar_mid (P := Tryz.prog) _ (w.heap.size + 1) 0 83 [.int .i64 ga, .int .i64 gb, .int .i64 gc, .int .i64 gd, .int .i64 ge] _ (range_of hf) Tryz.underlying83 rfl (by kernel_rfl)
  refine bodyPost_ret (results_cell (fn := Tryz.f95) rfl _ (by rfl) hl) rfl ?_
  exact ⟨rfl, (((((B3.alloc (by omega) _).setCell (by simp) _).setCell (by simp) _).setCell (by simp) _).setCell (by simp) _).setCell (by simp) _⟩

end Go.Proofs.YtcfapbccegijnaaGreat

/- Walks: laidOn of a setting with its back. -/
namespace Go.Proofs.YtcfapbccegijnaaGreat
open Go Go.RowKit Go.Proofs

set_option maxHeartbeats 2000000 in
theorem laidOn_back (v : Value) (G : List G5) (sh e : Int) (w : World) (hG : SlG w v G) (h : vset sh G.length = true) (h0 : 0 ≤ e) (h1 : e < G.length) (k k' : Nat) (hk' : ((k : Int) + G.length - 1) % G.length = (k' : Int)) (hkn' : k' < G.length) (hk : Plain.ed (Plain.inv sh true G.length) true G.length e = (k : Int)) (hkn : k < G.length) (hn : G.length ≤ 24) :
    Calls Tryz.prog 95 #[v, st sh true, .int .i64 e] w fun x w' => x = .returned (gg (gz G k).a (gz G k).b (gz G k').c (gz G k').d (gz G k').e) ∧ Below w.heap.size w w' := by
  obtain ⟨a, cap, rfl⟩ := hG.shape
  obtain ⟨bb, off, rfl, q0, q1, q2, q3, q4⟩ := hG.at hkn
  obtain ⟨bb', off', eo, p0, p1, p2, p3, p4⟩ := hG.at hkn'
  cases eo
  have hv : vset (Plain.inv sh true G.length) G.length = true := by
    have hh := h
    simp only [vset, Bool.and_eq_true, decide_eq_true_eq] at hh ⊢
    obtain ⟨⟨⟨a1, a2⟩, a3⟩, a4⟩ := hh
    have := Plain.inv_range (b := true) a3 a4
    exact ⟨⟨⟨a1, a2⟩, this.1⟩, this.2⟩
  have CI := fun w => inverse_any sh G.length true w h
  have CE := fun w => edgeP_any (Plain.inv sh true G.length) G.length e true w hv h0 h1
  rw [hk] at CE
  generalize Plain.inv sh true G.length = u at CI CE
  have hkn2 : (k : Int) < (G.length : Int) := by omega
  have hkn3 : (k' : Int) < (G.length : Int) := by omega
  generalize G.length = n at *
  generalize gz G k = g at *
  obtain ⟨ga, gb, gc, gd, ge⟩ := g
  generalize gz G k' = g' at *
  obtain ⟨ha, hb, hc, hd, he⟩ := g'
  simp only at q0 q1 q2 q3 q4 p0 p1 p2 p3 p4 ⊢
  have hb0 : bb < w.heap.size := lt_of_cell q0
  clear hG hk hv h
  have ew1 : IntKind.i64.wrap ((k : Int) + n) = (k : Int) + n := wi64 _ (by omega)
  have ew2 : IntKind.i64.wrap ((k : Int) + n - 1) = (k : Int) + n - 1 := wi64 _ (by omega)
  obtain ⟨X, hX⟩ : ∃ X, (w.alloc (stObj sh true)).alloc (.cells #[.int .i64 0, .int .i64 0, .int .i64 0, .int .i64 0, .int .i64 0] 83) = X := ⟨_, rfl⟩
  have B0 : Below w.heap.size w X := by rw [← hX]; exact ((Below.refl _ _).alloc (Nat.le_refl _) _).alloc (by simp) _
  have nX : X.heap.size = w.heap.size + 2 := by rw [← hX]; simp
  have hs : X.heap[w.heap.size]? = some (stObj sh true) := by rw [← hX]; exact (alloc_heap_old _ _ (by simp)).trans (alloc_heap_new _ _)
  have s0 : X.cell? ⟨w.heap.size, 0, none⟩ = some (.int .i64 sh) := cell_of hs rfl
  have s1 : X.cell? ⟨w.heap.size, 1, none⟩ = some (.bool true) := cell_of hs rfl
  have hr : X.heap[w.heap.size + 1]? = some (.cells #[.int .i64 0, .int .i64 0, .int .i64 0, .int .i64 0, .int .i64 0] 83) := by
    have := alloc_heap_new (w.alloc (stObj sh true)) (.cells #[.int .i64 0, .int .i64 0, .int .i64 0, .int .i64 0, .int .i64 0] 83)
    rw [World.size_alloc] at this; rw [← hX]; exact this
  go_enter Tryz.func95, Tryz.ntmps95
  go_wp2_with (first
    | (go_at_call 38; with_reducible refine (CI _).mono ?_; rintro x w1 ⟨rfl, hb1⟩
       try rw [hX] at hb1
       have B1 := keep_below B0 hb1
       have n1 : w.heap.size + 2 ≤ w1.heap.size := by have := hb1.size; omega
       have hs1 : w1.heap[w.heap.size]? = some (stObj sh true) := (hb1.block _ (by omega)).trans hs
       have hr1 : w1.heap[w.heap.size + 1]? = some (.cells #[.int .i64 0, .int .i64 0, .int .i64 0, .int .i64 0, .int .i64 0] 83) := (hb1.block _ (by omega)).trans hr
       clear hb1 hr hs s0 s1 B0)
    | (go_at_call 100; with_reducible refine (CE _).mono ?_; rintro x w2 ⟨rfl, hb2⟩
       have B3 := keep_below (B1.alloc (by omega) (stObj u true)) hb2
       have n3 : w.heap.size + 3 ≤ w2.heap.size := by have := hb2.size; simp at this; omega
       have hs3 : w2.heap[w.heap.size]? = some (stObj sh true) := (hb2.block _ (by simp; omega)).trans ((alloc_heap_old _ _ (by omega)).trans hs1)
       have hr3 : w2.heap[w.heap.size + 1]? = some (.cells #[.int .i64 0, .int .i64 0, .int .i64 0, .int .i64 0, .int .i64 0] 83) := (hb2.block _ (by simp; omega)).trans ((alloc_heap_old _ _ (by omega)).trans hr1)
       have t0 := keep_cell B3 q0
       have t1 := keep_cell B3 q1
       have t2 := keep_cell B3 q2
       have t3 := keep_cell B3 q3
       have t4 := keep_cell B3 q4
       have u0 := keep_cell B3 p0
       have u1 := keep_cell B3 p1
       have u2 := keep_cell B3 p2
       have u3 := keep_cell B3 p3
       have u4 := keep_cell B3 p4
       have f2 : w2.cell? ⟨w.heap.size, 1, none⟩ = some (.bool true) := cell_of hs3 rfl
       have fl : (w2.alloc (.cells #[.int .i64 ga, .int .i64 gb, .int .i64 gc, .int .i64 gd, .int .i64 ge] 83)).cell? ⟨w.heap.size, 1, none⟩ = some (.bool true) := cell_of ((alloc_heap_old _ _ (by omega)).trans hs3) rfl
       have lb : bb < w2.heap.size := by omega
       clear hb2 hr1 hs1 B1))
  obtain ⟨Z, hZ⟩ : ∃ Z, (w2.alloc (.cells #[.int .i64 ga, .int .i64 gb, .int .i64 gc, .int .i64 gd, .int .i64 ge] 83)).alloc (.cells #[.int .i64 ha, .int .i64 hb, .int .i64 hc, .int .i64 hd, .int .i64 he] 83) = Z := ⟨_, rfl⟩
  have hg : Z.heap[w2.heap.size]? = some (.cells #[.int .i64 ga, .int .i64 gb, .int .i64 gc, .int .i64 gd, .int .i64 ge] 83) := by rw [← hZ]; exact (alloc_heap_old _ _ (by simp)).trans (alloc_heap_new _ _)
  have hh : Z.heap[w2.heap.size + 1]? = some (.cells #[.int .i64 ha, .int .i64 hb, .int .i64 hc, .int .i64 hd, .int .i64 he] 83) := by
    have := alloc_heap_new (w2.alloc (.cells #[.int .i64 ga, .int .i64 gb, .int .i64 gc, .int .i64 gd, .int .i64 ge] 83)) (.cells #[.int .i64 ha, .int .i64 hb, .int .i64 hc, .int .i64 hd, .int .i64 he] 83); rw [World.size_alloc] at this; rw [← hZ]; exact this
  have hz : Z.heap[w.heap.size + 1]? = some (.cells #[.int .i64 0, .int .i64 0, .int .i64 0, .int .i64 0, .int .i64 0] 83) := by rw [← hZ]; exact (alloc_heap_old _ _ (by simp; omega)).trans ((alloc_heap_old _ _ (by omega)).trans hr3)
  have B4 : Below w.heap.size w Z := by rw [← hZ]; exact (B3.alloc (by omega) _).alloc (by simp; omega) _
  rw [hZ]
  obtain ⟨g0, eg⟩ : ∃ g0, w2.heap.size = g0 := ⟨_, rfl⟩
  have hg0 : w.heap.size + 3 ≤ g0 := by omega
  rw [eg] at hg hh
  simp only [eg]
  clear hZ B3 t0 t1 t2 t3 t4 u0 u1 u2 u3 u4 f2 fl
  have g0' : Z.cell? ⟨g0, 0, none⟩ = some (.int .i64 ga) := cell_of hg rfl
  have h0' : Z.cell? ⟨g0 + 1, 0, none⟩ = some (.int .i64 ha) := cell_of hh rfl
  have k0' : Z.frozen? ⟨g0, 0, none⟩ = false := frozen_of hg
  have g1' : Z.cell? ⟨g0, 1, none⟩ = some (.int .i64 gb) := cell_of hg rfl
  have h1' : Z.cell? ⟨g0 + 1, 1, none⟩ = some (.int .i64 hb) := cell_of hh rfl
  have k1' : Z.frozen? ⟨g0, 1, none⟩ = false := frozen_of hg
  have g2' : Z.cell? ⟨g0, 2, none⟩ = some (.int .i64 gc) := cell_of hg rfl
  have h2' : Z.cell? ⟨g0 + 1, 2, none⟩ = some (.int .i64 hc) := cell_of hh rfl
  have k2' : Z.frozen? ⟨g0, 2, none⟩ = false := frozen_of hg
  have g3' : Z.cell? ⟨g0, 3, none⟩ = some (.int .i64 gd) := cell_of hg rfl
  have h3' : Z.cell? ⟨g0 + 1, 3, none⟩ = some (.int .i64 hd) := cell_of hh rfl
  have k3' : Z.frozen? ⟨g0, 3, none⟩ = false := frozen_of hg
  have g4' : Z.cell? ⟨g0, 4, none⟩ = some (.int .i64 ge) := cell_of hg rfl
  have h4' : Z.cell? ⟨g0 + 1, 4, none⟩ = some (.int .i64 he) := cell_of hh rfl
  have k4' : Z.frozen? ⟨g0, 4, none⟩ = false := frozen_of hg
  go_region
  obtain ⟨V, hV⟩ : ∃ V, (((Z.setCell ⟨g0, 2, none⟩ (.int .i64 hc)).setCell ⟨g0, 3, none⟩ (.int .i64 hd)).setCell ⟨g0, 4, none⟩ (.int .i64 he)).drew = V := ⟨_, rfl⟩
  have vg : V.heap[g0]? = some (.cells #[.int .i64 ga, .int .i64 gb, .int .i64 hc, .int .i64 hd, .int .i64 he] 83) := by rw [← hV]; exact setCell_heap _ (setCell_heap _ (setCell_heap _ hg))
  have vz : V.heap[w.heap.size + 1]? = some (.cells #[.int .i64 0, .int .i64 0, .int .i64 0, .int .i64 0, .int .i64 0] 83) := by
    rw [← hV]
    show (((Z.setCell ⟨g0, 2, none⟩ (.int .i64 hc)).setCell ⟨g0, 3, none⟩ (.int .i64 hd)).setCell ⟨g0, 4, none⟩ (.int .i64 he)).heap[w.heap.size + 1]? = _
    rw [Below.heap_setCell _ _ _ _ (by simp; omega), Below.heap_setCell _ _ _ _ (by simp; omega), Below.heap_setCell _ _ _ _ (by simp; omega)]
    exact hz
  have B5 : Below w.heap.size w V := by rw [← hV]; exact (((B4.setCell (by simp; omega) _).setCell (by simp; omega) _).setCell (by simp; omega) _).drew
  rw [hV]
  clear hV B4 hg hh hz g0' h0' k0' g1' h1' k1' g2' h2' k2' g3' h3' k3' g4' h4' k4'
  have v0 : V.cell? ⟨g0, 0, none⟩ = some (.int .i64 ga) := cell_of vg rfl
  have z0 : V.cell? ⟨w.heap.size + 1, 0, none⟩ = some (.int .i64 0) := cell_of vz rfl
  have y0 : V.frozen? ⟨w.heap.size + 1, 0, none⟩ = false := frozen_of vz
  have v1 : V.cell? ⟨g0, 1, none⟩ = some (.int .i64 gb) := cell_of vg rfl
  have z1 : V.cell? ⟨w.heap.size + 1, 1, none⟩ = some (.int .i64 0) := cell_of vz rfl
  have y1 : V.frozen? ⟨w.heap.size + 1, 1, none⟩ = false := frozen_of vz
  have v2 : V.cell? ⟨g0, 2, none⟩ = some (.int .i64 hc) := cell_of vg rfl
  have z2 : V.cell? ⟨w.heap.size + 1, 2, none⟩ = some (.int .i64 0) := cell_of vz rfl
  have y2 : V.frozen? ⟨w.heap.size + 1, 2, none⟩ = false := frozen_of vz
  have v3 : V.cell? ⟨g0, 3, none⟩ = some (.int .i64 hd) := cell_of vg rfl
  have z3 : V.cell? ⟨w.heap.size + 1, 3, none⟩ = some (.int .i64 0) := cell_of vz rfl
  have y3 : V.frozen? ⟨w.heap.size + 1, 3, none⟩ = false := frozen_of vz
  have v4 : V.cell? ⟨g0, 4, none⟩ = some (.int .i64 he) := cell_of vg rfl
  have z4 : V.cell? ⟨w.heap.size + 1, 4, none⟩ = some (.int .i64 0) := cell_of vz rfl
  have y4 : V.frozen? ⟨w.heap.size + 1, 4, none⟩ = false := frozen_of vz
  simp only [Exit.then]
  go_at_K
  go_wp2
  have hf : (((((V.setCell ⟨w.heap.size + 1, 0, none⟩ (.int .i64 ga)).setCell ⟨w.heap.size + 1, 1, none⟩ (.int .i64 gb)).setCell ⟨w.heap.size + 1, 2, none⟩ (.int .i64 hc)).setCell ⟨w.heap.size + 1, 3, none⟩ (.int .i64 hd)).setCell ⟨w.heap.size + 1, 4, none⟩ (.int .i64 he)).heap[w.heap.size + 1]? = some (.cells #[.int .i64 ga, .int .i64 gb, .int .i64 hc, .int .i64 hd, .int .i64 he] 83) :=
    setCell_heap _ (setCell_heap _ (setCell_heap _ (setCell_heap _ (setCell_heap _ vz))))
  have hl := run_loadVar_mid (P := Tryz.prog) _ (w.heap.size + 1) 0 83 [.int .i64 ga, .int .i64 gb, .int .i64 hc, .int .i64 hd, .int .i64 he] _ (range_of hf) Tryz.underlying83 rfl (by kernel_rfl)
  refine bodyPost_ret (results_cell (fn := Tryz.f95) rfl _ (by rfl) hl) rfl ?_
  exact ⟨rfl, ((((B5.setCell (by simp) _).setCell (by simp) _).setCell (by simp) _).setCell (by simp) _).setCell (by simp) _⟩

end Go.Proofs.YtcfapbccegijnaaGreat

/- Fitting, plain: both ways of asking whether gauges hold of an outline's measures are one. -/
namespace Go.Proofs.YtcfapbccegijnaaGreat
open Go Go.RowKit Go.Proofs Go.Abs

/-- Edges that a setting lays on x, and those on which it lays them. -/
def kf (n sh x : Nat) : Nat := if sh ≤ x then x - sh else x + n - sh
def kb (n sh x : Nat) : Nat := if x ≤ sh then sh - x else sh + n - x
def fw (n sh i : Nat) : Nat := if sh + i < n then sh + i else sh + i - n
def pr (n k : Nat) : Nat := if k = 0 then n - 1 else k - 1

theorem kf_lt {n sh x : Nat} (h : sh < n) (hx : x < n) : kf n sh x < n := by unfold kf; split <;> omega
theorem kb_lt {n sh x : Nat} (h : sh < n) (hx : x < n) : kb n sh x < n := by unfold kb; split <;> omega
theorem fw_lt {n sh x : Nat} (h : sh < n) (hx : x < n) : fw n sh x < n := by unfold fw; split <;> omega
theorem pr_lt {n k : Nat} (h : k < n) : pr n k < n := by unfold pr; split <;> omega

theorem rot_all {n sh : Nat} (h : sh < n) (P : Nat → Nat → Prop) : (∀ x, x < n → P (kf n sh x) x) ↔ (∀ i, i < n → P i (fw n sh i)) := by
  constructor
  · intro hp i hi
    have := hp (fw n sh i) (fw_lt h hi)
    rwa [show kf n sh (fw n sh i) = i by unfold kf fw; (repeat' split) <;> omega] at this
  · intro hp x hx
    have := hp (kf n sh x) (kf_lt h hx)
    rwa [show fw n sh (kf n sh x) = x by unfold kf fw; (repeat' split) <;> omega] at this

theorem flip_all {n sh : Nat} (h : sh < n) (P : Nat → Nat → Prop) : (∀ x, x < n → P (kb n sh x) x) ↔ (∀ i, i < n → P i (kb n sh i)) := by
  have e : ∀ x, x < n → kb n sh (kb n sh x) = x := fun x hx => by unfold kb; (repeat' split) <;> omega
  constructor
  · intro hp i hi
    have := hp (kb n sh i) (kb_lt h hi)
    rwa [e i hi] at this
  · intro hp x hx
    have := hp (kb n sh x) (kb_lt h hx)
    rwa [e x hx] at this

theorem flip_pr {n sh : Nat} (h : sh < n) (P : Nat → Nat → Prop) : (∀ x, x < n → P (pr n (kb n sh x)) x) ↔ (∀ i, i < n → P i (pr n (kb n sh i))) := by
  have e : ∀ x, x < n → pr n (kb n sh (pr n (kb n sh x))) = x := fun x hx => by unfold kb pr; (repeat' split) <;> omega
  have l : ∀ x, x < n → pr n (kb n sh x) < n := fun x hx => pr_lt (kb_lt h hx)
  constructor
  · intro hp i hi
    have := hp _ (l i hi)
    rwa [e i hi] at this
  · intro hp x hx
    have := hp _ (l x hx)
    rwa [e x hx] at this

/-- The gauge that is laid on edge x. -/
def lay (G : List G5) (n sh : Nat) (b : Bool) (x : Nat) : G5 :=
  if b then ⟨(gz G (kb n sh x)).a, (gz G (kb n sh x)).b, (gz G (pr n (kb n sh x))).c, (gz G (pr n (kb n sh x))).d, (gz G (pr n (kb n sh x))).e⟩ else gz G (kf n sh x)

/-- A gauge holds of measures. -/
def okM (g : G5) (a b c : Int) : Bool := wi a g.a g.b && wi b g.c g.d && (decide (g.e = 0) || decide (g.e = c))

def fitP (G : List G5) (L : List (Int × Int)) (n s : Nat) (b : Bool) : Bool := (List.range n).all fun x => okM (lay G n s b x) (m1 L x) (m2 L x) (m3 L x)

/-- What belongs to gauge i. -/
def meA (L : List (Int × Int)) (n s : Nat) (b : Bool) (i : Nat) : Int := if b then m1 L (kb n s i) else m1 L (fw n s i)
def meB (L : List (Int × Int)) (n s : Nat) (b : Bool) (i : Nat) : Int := if b then m2 L (pr n (kb n s i)) else m2 L (fw n s i)
def meC (L : List (Int × Int)) (n s : Nat) (b : Bool) (i : Nat) : Int := if b then m3 L (pr n (kb n s i)) else m3 L (fw n s i)

def fitR (G : List G5) (L : List (Int × Int)) (n s : Nat) (b : Bool) : Bool := (List.range n).all fun i => okM (gz G i) (meA L n s b i) (meB L n s b i) (meC L n s b i)

theorem fit_eq (G : List G5) (L : List (Int × Int)) {n s : Nat} (b : Bool) (h : s < n) : fitP G L n s b = fitR G L n s b := by
  rw [Bool.eq_iff_iff]
  unfold fitP fitR
  rw [List.all_eq_true, List.all_eq_true]
  simp only [List.mem_range]
  cases b
  · exact rot_all h (fun i x => okM (gz G i) (m1 L x) (m2 L x) (m3 L x) = true)
  · have A := flip_all h (fun i x => wi (m1 L x) (gz G i).a (gz G i).b = true)
    have B := flip_pr h (fun i x => (wi (m2 L x) (gz G i).c (gz G i).d && (decide ((gz G i).e = 0) || decide ((gz G i).e = m3 L x))) = true)
    have e1 : ∀ x, okM (lay G n s true x) (m1 L x) (m2 L x) (m3 L x) = true ↔ (wi (m1 L x) (gz G (kb n s x)).a (gz G (kb n s x)).b = true ∧ (wi (m2 L x) (gz G (pr n (kb n s x))).c (gz G (pr n (kb n s x))).d && (decide ((gz G (pr n (kb n s x))).e = 0) || decide ((gz G (pr n (kb n s x))).e = m3 L x))) = true) := by
      intro x; unfold okM lay; simp only [if_true, Bool.and_eq_true, and_assoc]
    have e2 : ∀ i, okM (gz G i) (meA L n s true i) (meB L n s true i) (meC L n s true i) = true ↔ (wi (m1 L (kb n s i)) (gz G i).a (gz G i).b = true ∧ (wi (m2 L (pr n (kb n s i))) (gz G i).c (gz G i).d && (decide ((gz G i).e = 0) || decide ((gz G i).e = m3 L (pr n (kb n s i))))) = true) := by
      intro i; unfold okM meA meB meC; simp only [if_true, Bool.and_eq_true, and_assoc]
    constructor
    · intro hp i hi
      rw [e2]
      exact ⟨A.1 (fun x hx => ((e1 x).1 (hp x hx)).1) i hi, B.1 (fun x hx => ((e1 x).1 (hp x hx)).2) i hi⟩
    · intro hp x hx
      rw [e1]
      exact ⟨A.2 (fun i hi => ((e2 i).1 (hp i hi)).1) x hx, B.2 (fun i hi => ((e2 i).1 (hp i hi)).2) x hx⟩

/-- What laidOn answers. -/
theorem lay_forth {n sh x : Nat} (h : sh < n) (hx : x < n) : Plain.ed (Plain.inv sh false n) false n x = (kf n sh x : Int) := by
  unfold Plain.ed Plain.inv kf
  simp only [Bool.false_eq_true, if_false]
  (repeat' split) <;> omega
theorem lay_back {n sh x : Nat} (_h : sh < n) (hx : x < n) : Plain.ed (Plain.inv sh true n) true n x = (kb n sh x : Int) := by
  unfold Plain.ed Plain.inv kb
  simp only [if_true]
  (repeat' split) <;> omega
theorem pr_mod {n k : Nat} (h : k < n) : ((k : Int) + n - 1) % n = (pr n k : Int) := by
  unfold pr
  split
  · rw [Plain.mod_lo] <;> omega
  · rw [Plain.mod_hi] <;> omega

theorem laidOn_any (v : Value) (G : List G5) (sh x : Nat) (b : Bool) (w : World) (hG : SlG w v G) (hn : G.length ≤ 24) (h3 : 3 ≤ G.length) (h : sh < G.length) (hx : x < G.length) :
    Calls Tryz.prog 95 #[v, st sh b, .int .i64 x] w fun e w' => e = .returned (gg (lay G G.length sh b x).a (lay G G.length sh b x).b (lay G G.length sh b x).c (lay G G.length sh b x).d (lay G G.length sh b x).e) ∧ Below w.heap.size w w' := by
  have hv : vset (sh : Int) G.length = true := by
    unfold vset
    simp only [Bool.and_eq_true, decide_eq_true_eq]
    omega
  cases b
  · exact laidOn_forth v G sh x w hG hv (by omega) (by omega) _ (lay_forth h hx) (kf_lt h hx)
  · exact laidOn_back v G sh x w hG hv (by omega) (by omega) _ _ (pr_mod (kb_lt h hx)) (pr_lt (kb_lt h hx)) (lay_back h hx) (kb_lt h hx) hn

end Go.Proofs.YtcfapbccegijnaaGreat

/- Walks: the reference's bend and measure, of any setting; Holds. -/
namespace Go.Proofs.YtcfapbccegijnaaGreat
open Go Go.RowKit Go.Proofs Go.Abs

theorem atN_add {n : Nat} {k : Int} {x : Nat} (hn : 0 < n) (h : atN n k = x) (c : Nat) : atN n (k + c) = (x + c) % n := by
  subst h
  unfold atN
  have e : (k + c) % (n : Int) = (((k % (n : Int)).toNat + c) % n : Nat) := by
    rw [Int.natCast_emod, Int.natCast_add, Int.toNat_of_nonneg (Int.emod_nonneg _ (by omega)), Int.emod_add_emod]
  rw [e, Int.toNat_natCast]

theorem atN_mod {n x : Nat} {k : Int} (hx : x < n) (h : (k = x) ∨ (k = x + n) ∨ (k = x - n)) : atN n k = x := by
  unfold atN
  have e : k % (n : Int) = (x : Int) := by
    rcases h with rfl | rfl | rfl
    · exact Int.emod_eq_of_lt (by omega) (by omega)
    · rw [Int.add_emod_right]; exact Int.emod_eq_of_lt (by omega) (by omega)
    · rw [Int.sub_emod_right]; exact Int.emod_eq_of_lt (by omega) (by omega)
  rw [e, Int.toNat_natCast]

theorem fw_at {n s i : Nat} (hs : s < n) (hi : i < n) : atN n ((s : Int) + i) = fw n s i :=
  atN_mod (fw_lt hs hi) (by unfold fw; split <;> omega)
theorem kb_at {n s i : Nat} (hs : s < n) (hi : i < n) : atN n ((s : Int) - i) = kb n s i :=
  atN_mod (kb_lt hs hi) (by unfold kb; split <;> omega)
theorem pr_at {n s i : Nat} (hs : s < n) (hi : i < n) : atN n ((s : Int) - i - 1) = pr n (kb n s i) :=
  atN_mod (pr_lt (kb_lt hs hi)) (by unfold kb pr; (repeat' split) <;> omega)

set_option maxRecDepth 100000 in
set_option maxHeartbeats 2000000 in
theorem bend147_any (b off cap : Nat) (L : List (Int × Int)) (h3 : 3 ≤ L.length) (h24 : L.length ≤ 24) (hs : ∀ k, Small (px L k) ∧ Small (py L k)) (w : World)
    (hp : PtsAt w b off L) (x : Nat) (hx : x < L.length) (j : Int) (hj : -100 ≤ j ∧ j ≤ 100) (hjx : atN L.length (j - 1) = x) :
    Calls Tryz.prog 147 #[.slice (some ⟨b, off, none⟩) L.length cap, .int .i64 j] w fun e w' => e = .returned (.int .i64 (m3 L x)) ∧ Below w.heap.size w w' := by
  have M := m3_eq hx h3
  have HC := Lib.hid (show ∀ k, k < L.length → _ from hp)
  have e1 : atN L.length j = (x + 1) % L.length := by have := atN_add (by omega) hjx 1; rwa [show j - 1 + ((1 : Nat) : Int) = j by omega] at this
  have e2 : atN L.length (j + 1) = (x + 2) % L.length := by have := atN_add (by omega) hjx 2; rwa [show j - 1 + ((2 : Nat) : Int) = j + 1 by omega] at this
  have A0 := at88_from (cap := cap) (by omega) HC (j - 1) x (px L x) (py L x) (Lib.hid ⟨by omega, hjx, rfl, rfl⟩)
  have A1 := at88_from (cap := cap) (by omega) HC j ((x + 1) % L.length) _ _ (Lib.hid ⟨by omega, e1, rfl, rfl⟩)
  have A2 := at88_from (cap := cap) (by omega) HC (j + 1) ((x + 2) % L.length) _ _ (Lib.hid ⟨by omega, e2, rfl, rfl⟩)
  have C := fun w => refCross_any (px L x) (py L x) (px L ((x + 1) % L.length)) (py L ((x + 1) % L.length)) (px L ((x + 2) % L.length)) (py L ((x + 2) % L.length)) w (hs _).1 (hs _).2 (hs _).1 (hs _).2 (hs _).1 (hs _).2
  generalize cross (px L x) (py L x) (px L ((x + 1) % L.length)) (py L ((x + 1) % L.length)) (px L ((x + 2) % L.length)) (py L ((x + 2) % L.length)) = c at C M
  generalize px L x = x0, py L x = y0 at A0 C
  generalize px L ((x + 1) % L.length) = x1, py L ((x + 1) % L.length) = y1 at A1 C
  generalize px L ((x + 2) % L.length) = x2, py L ((x + 2) % L.length) = y2 at A2 C
  have U1 : IntKind.i64.wrap (j - 1) = j - 1 := wi64 _ (by omega)
  have U2 : IntKind.i64.wrap (j + 1) = j + 1 := wi64 _ (by omega)
  have bb := Below.refl w.heap.size w
  have HM := Lib.hid M
  clear hp HC hs M hjx e1 e2
  generalize L.length = n at *
  go_enter Tryz.func147, Tryz.ntmps147
  go_wp2_with fail
  refine (A0 _ bb).mono ?_
  rintro e w1 ⟨rfl, hb⟩
  replace bb := keep_below bb hb
  clear hb
  go_wp2_with fail
  refine (A1 _ bb).mono ?_
  rintro e w2 ⟨rfl, hb⟩
  replace bb := keep_below bb hb
  clear hb
  go_wp2_with fail
  refine (A2 _ bb).mono ?_
  rintro e w3 ⟨rfl, hb⟩
  replace bb := keep_below bb hb
  clear hb
  go_wp2_with fail
  refine (C _).mono ?_
  rintro e w4 ⟨rfl, hb⟩
  replace bb := keep_below bb hb
  clear hb C A0 A1 A2
  by_cases hc : 0 < c
  · have hm : m3 L x = 1 := by rw [HM.out, if_pos hc]
    go_wp2
    go_ret
    exact ⟨by rw [hm]; rfl, bb⟩
  · have hm : m3 L x = -1 := by rw [HM.out, if_neg hc]
    go_wp2
    go_ret
    exact ⟨by rw [hm]; rfl, bb⟩

theorem st_heap (w : World) (s : Int) (b : Bool) : ((w.alloc (stObj s b)).alloc (.cells #[.int .i64 0, .int .i64 0, .int .i64 0] 130)).heap[w.heap.size]? = some (stObj s b) :=
  (alloc_heap_old _ _ (by simp)).trans (alloc_heap_new _ _)
theorem BoxS.of {t : TypeId} {W : World} {B : Nat} {c : Array Value} (h : W.heap[B]? = some (.cells c t)) : BoxS t W B (.agg c) := ⟨c, rfl, h⟩
theorem st_bx (w : World) (s : Int) (b : Bool) : ((w.alloc (stObj s b)).alloc (.cells #[.int .i64 0, .int .i64 0, .int .i64 0] 130)).cell? ⟨w.heap.size, 0, none⟩ = some (.int .i64 s) ∧ ((w.alloc (stObj s b)).alloc (.cells #[.int .i64 0, .int .i64 0, .int .i64 0] 130)).cell? ⟨w.heap.size, 1, none⟩ = some (.bool b) :=
  ⟨pt_old _ _ (st_new w s b).1, pt_old _ _ (st_new w s b).2⟩


set_option maxRecDepth 100000 in
set_option maxHeartbeats 4000000 in
theorem measure_forth (b off cap : Nat) (L : List (Int × Int)) (h3 : 3 ≤ L.length) (h24 : L.length ≤ 24) (hs : ∀ k, Small (px L k) ∧ Small (py L k)) (w : World)
    (hp : PtsAt w b off L) (s i : Nat) (hs0 : s < L.length) (hi : i < L.length) :
    Calls Tryz.prog 97 #[.slice (some ⟨b, off, none⟩) L.length cap, st s false, .int .i64 i] w fun e w' => e = .returned (ms (meA L L.length s false i) (meB L L.length s false i) (meC L L.length s false i)) ∧ Below w.heap.size w w' := by
  have HC := Lib.hid (show ∀ k, k < L.length → _ from hp)
  obtain ⟨k, hk0⟩ : ∃ k : Int, (s : Int) + i = k := ⟨_, rfl⟩
  obtain ⟨x, hx0⟩ : ∃ x, fw L.length s i = x := ⟨_, rfl⟩
  have hx : x < L.length := by rw [← hx0]; exact fw_lt hs0 hi
  have h0 : atN L.length k = x := by rw [← hk0, ← hx0]; exact fw_at hs0 hi
  have h1 : atN L.length (k + 1) = (x + 1) % L.length := atN_add (by omega) h0 1
  have h2 : atN L.length (k + 2) = (x + 2) % L.length := atN_add (by omega) h0 2
  have hkr : 0 ≤ k ∧ k ≤ 48 := by omega
  have HR := Lib.hid (show meA L L.length s false i = sqK L x ((x + 1) % L.length) ∧ meB L L.length s false i = sqK L x ((x + 2) % L.length) ∧ meC L L.length s false i = m3 L x by unfold meA meB meC; rw [← hx0]; exact ⟨rfl, rfl, rfl⟩)
  have A0 := at88_from (cap := cap) (by omega) HC k x (px L x) (py L x) (Lib.hid ⟨by omega, h0, rfl, rfl⟩)
  have A1 := at88_from (cap := cap) (by omega) HC (k + 1) ((x + 1) % L.length) _ _ (Lib.hid ⟨by omega, h1, rfl, rfl⟩)
  have A2 := at88_from (cap := cap) (by omega) HC (k + 2) ((x + 2) % L.length) _ _ (Lib.hid ⟨by omega, h2, rfl, rfl⟩)
  have D1 := fun w => dist_any (px L x) (py L x) (px L ((x + 1) % L.length)) (py L ((x + 1) % L.length)) w (hs _).1 (hs _).2 (hs _).1 (hs _).2
  have D2 := fun w => dist_any (px L x) (py L x) (px L ((x + 2) % L.length)) (py L ((x + 2) % L.length)) w (hs _).1 (hs _).2 (hs _).1 (hs _).2
  have BB := Lib.hid (fun (w' : World) (hb : Below w.heap.size w w') => bend147_any b off cap L h3 h24 hs w' (hp.keep hb) x hx (k + 1) (by omega) (by rwa [show k + 1 - 1 = k by omega]))
  rw [show square (px L x) (py L x) (px L ((x + 1) % L.length)) (py L ((x + 1) % L.length)) = sqK L x ((x + 1) % L.length) from rfl] at D1
  rw [show square (px L x) (py L x) (px L ((x + 2) % L.length)) (py L ((x + 2) % L.length)) = sqK L x ((x + 2) % L.length) from rfl] at D2
  rw [HR.out.1, HR.out.2.1, HR.out.2.2]
  generalize sqK L x ((x + 1) % L.length) = a1 at *
  generalize sqK L x ((x + 2) % L.length) = a2 at *
  generalize m3 L x = a3 at *
  generalize px L x = x0, py L x = y0 at A0 D1 D2
  generalize px L ((x + 1) % L.length) = x1, py L ((x + 1) % L.length) = y1 at A1 D1
  generalize px L ((x + 2) % L.length) = x2, py L ((x + 2) % L.length) = y2 at A2 D2
  have U0 : IntKind.i64.wrap ((s : Int) + i) = k := by rw [wi64 _ (by omega), hk0]
  have U1 : IntKind.i64.wrap (k + 1) = k + 1 := wi64 _ (by omega)
  have U2 : IntKind.i64.wrap (k + 2) = k + 2 := wi64 _ (by omega)
  have bb : Below w.heap.size w ((w.alloc (stObj s false)).alloc (.cells #[.int .i64 0, .int .i64 0, .int .i64 0] 130)) := ((Below.refl _ _).alloc (Nat.le_refl _) _).alloc (by simp) _
  have bs := BoxS.of (st_heap w s false)
  have bx : BoxS 130 ((w.alloc (stObj s false)).alloc (.cells #[.int .i64 0, .int .i64 0, .int .i64 0] 130)) (w.heap.size + 1) (ms 0 0 0) := by
    have := BoxS.new 130 (w.alloc (stObj s false)) #[.int .i64 0, .int .i64 0, .int .i64 0]
    rwa [World.size_alloc] at this
  have c0 := bs.cell (o := 0) rfl
  have c1 := bs.cell (o := 1) rfl
  clear hp HC hs HR hk0 hx0
  generalize L.length = n at *
  go_enter Tryz.func97, Tryz.ntmps97
  go_wp2_with fail
  refine (A0 _ bb).mono ?_
  rintro e w1 ⟨rfl, hb⟩
  replace bx := bx.keep hb
  replace bs := bs.keep hb
  replace bb := keep_below bb hb
  clear hb
  clear c0 c1
  go_wp2_with fail
  refine (A1 _ bb).mono ?_
  rintro e w1 ⟨rfl, hb⟩
  replace bx := bx.keep hb
  replace bs := bs.keep hb
  replace bb := keep_below bb hb
  clear hb
  go_wp2_with fail
  refine (D1 _).mono ?_
  rintro e w1 ⟨rfl, hb⟩
  replace bx := bx.keep hb
  replace bs := bs.keep hb
  replace bb := keep_below bb hb
  clear hb
  go_wp2_with fail
  refine (A0 _ bb).mono ?_
  rintro e w1 ⟨rfl, hb⟩
  replace bx := bx.keep hb
  replace bs := bs.keep hb
  replace bb := keep_below bb hb
  clear hb
  go_wp2_with fail
  refine (A2 _ bb).mono ?_
  rintro e w1 ⟨rfl, hb⟩
  replace bx := bx.keep hb
  replace bs := bs.keep hb
  replace bb := keep_below bb hb
  clear hb
  go_wp2_with fail
  refine (D2 _).mono ?_
  rintro e w1 ⟨rfl, hb⟩
  replace bx := bx.keep hb
  replace bs := bs.keep hb
  replace bb := keep_below bb hb
  clear hb
  go_wp2_with fail
  refine (BB.out _ bb).mono ?_
  rintro e w1 ⟨rfl, hb⟩
  replace bx := bx.keep hb
  replace bs := bs.keep hb
  replace bb := keep_below bb hb
  clear hb
  have c0 := bx.cell (o := 0) rfl
  have c1 := bx.cell (o := 1) rfl
  have c2 := bx.cell (o := 2) rfl
  have g0 := bx.frozen 0
  have g1 := bx.frozen 1
  have g2 := bx.frozen 2
  clear A0 A1 A2 D1 D2 BB
  go_wp2_with fail
  have s3 := ((bx.set 0 (.int .i64 a1)).set 1 (.int .i64 a2)).set 2 (.int .i64 a3)
  refine bodyPost_ret (v := ms a1 a2 a3) (results_cell rfl _ rfl (BoxS.load82 s3)) rfl ⟨rfl, ?_⟩
  exact ((bb.setCell (by simp) _).setCell (by simp) _).setCell (by simp) _

set_option maxRecDepth 100000 in
set_option maxHeartbeats 4000000 in
theorem measure_back (b off cap : Nat) (L : List (Int × Int)) (h3 : 3 ≤ L.length) (h24 : L.length ≤ 24) (hs : ∀ k, Small (px L k) ∧ Small (py L k)) (w : World)
    (hp : PtsAt w b off L) (s i : Nat) (hs0 : s < L.length) (hi : i < L.length) :
    Calls Tryz.prog 97 #[.slice (some ⟨b, off, none⟩) L.length cap, st s true, .int .i64 i] w fun e w' => e = .returned (ms (meA L L.length s true i) (meB L L.length s true i) (meC L L.length s true i)) ∧ Below w.heap.size w w' := by
  have HC := Lib.hid (show ∀ k, k < L.length → _ from hp)
  obtain ⟨k, hk0⟩ : ∃ k : Int, (s : Int) - i = k := ⟨_, rfl⟩
  obtain ⟨x, hx0⟩ : ∃ x, kb L.length s i = x := ⟨_, rfl⟩
  obtain ⟨y, hy0⟩ : ∃ y, pr L.length (kb L.length s i) = y := ⟨_, rfl⟩
  have hx : x < L.length := by rw [← hx0]; exact kb_lt hs0 hi
  have hy : y < L.length := by rw [← hy0]; exact pr_lt (kb_lt hs0 hi)
  have h0 : atN L.length k = x := by rw [← hk0, ← hx0]; exact kb_at hs0 hi
  have h1 : atN L.length (k + 1) = (x + 1) % L.length := atN_add (by omega) h0 1
  have g0 : atN L.length (k - 1) = y := by rw [← hk0, ← hy0]; exact pr_at hs0 hi
  have g2 : (y + 2) % L.length = (x + 1) % L.length := by
    have := atN_add (by omega) g0 2
    rw [show k - 1 + ((2 : Nat) : Int) = k + 1 by omega] at this
    rw [← this, h1]
  have hkr : -24 ≤ k ∧ k ≤ 24 := by omega
  have HR := Lib.hid (show meA L L.length s true i = sqK L x ((x + 1) % L.length) ∧ meB L L.length s true i = sqK L y ((x + 1) % L.length) ∧ meC L L.length s true i = m3 L y by
    unfold meA meB meC; rw [← g2, ← hy0, ← hx0]
    exact ⟨by unfold m1; rw [show (pr L.length (kb L.length s i) + 2) % L.length = (kb L.length s i + 1) % L.length by rw [hy0, hx0]; exact g2]; rfl, rfl, rfl⟩)
  have A0 := at88_from (cap := cap) (by omega) HC k x (px L x) (py L x) (Lib.hid ⟨by omega, h0, rfl, rfl⟩)
  have A1 := at88_from (cap := cap) (by omega) HC (k + 1) ((x + 1) % L.length) _ _ (Lib.hid ⟨by omega, h1, rfl, rfl⟩)
  have A2 := at88_from (cap := cap) (by omega) HC (k - 1) y (px L y) (py L y) (Lib.hid ⟨by omega, g0, rfl, rfl⟩)
  have D1 := fun w => dist_any (px L x) (py L x) (px L ((x + 1) % L.length)) (py L ((x + 1) % L.length)) w (hs _).1 (hs _).2 (hs _).1 (hs _).2
  have D2 := fun w => dist_any (px L y) (py L y) (px L ((x + 1) % L.length)) (py L ((x + 1) % L.length)) w (hs _).1 (hs _).2 (hs _).1 (hs _).2
  have BB := Lib.hid (fun (w' : World) (hb : Below w.heap.size w w') => bend147_any b off cap L h3 h24 hs w' (hp.keep hb) y hy k (by omega) g0)
  rw [show square (px L x) (py L x) (px L ((x + 1) % L.length)) (py L ((x + 1) % L.length)) = sqK L x ((x + 1) % L.length) from rfl] at D1
  rw [show square (px L y) (py L y) (px L ((x + 1) % L.length)) (py L ((x + 1) % L.length)) = sqK L y ((x + 1) % L.length) from rfl] at D2
  rw [HR.out.1, HR.out.2.1, HR.out.2.2]
  generalize sqK L x ((x + 1) % L.length) = a1 at *
  generalize sqK L y ((x + 1) % L.length) = a2 at *
  generalize m3 L y = a3 at *
  generalize px L x = x0, py L x = y0 at A0 D1
  generalize px L ((x + 1) % L.length) = x1, py L ((x + 1) % L.length) = y1 at A1 D1 D2
  generalize px L y = x2, py L y = y2 at A2 D2
  have U0 : IntKind.i64.wrap ((s : Int) - i) = k := by rw [wi64 _ (by omega), hk0]
  have U3 : IntKind.i64.wrap (k - 1) = k - 1 := wi64 _ (by omega)
  have U1 : IntKind.i64.wrap (k + 1) = k + 1 := wi64 _ (by omega)
  have U2 : IntKind.i64.wrap (k + 2) = k + 2 := wi64 _ (by omega)
  have bb : Below w.heap.size w ((w.alloc (stObj s true)).alloc (.cells #[.int .i64 0, .int .i64 0, .int .i64 0] 130)) := ((Below.refl _ _).alloc (Nat.le_refl _) _).alloc (by simp) _
  have bs := BoxS.of (st_heap w s true)
  have bx : BoxS 130 ((w.alloc (stObj s true)).alloc (.cells #[.int .i64 0, .int .i64 0, .int .i64 0] 130)) (w.heap.size + 1) (ms 0 0 0) := by
    have := BoxS.new 130 (w.alloc (stObj s true)) #[.int .i64 0, .int .i64 0, .int .i64 0]
    rwa [World.size_alloc] at this
  have c0 := bs.cell (o := 0) rfl
  have c1 := bs.cell (o := 1) rfl
  clear hp HC hs HR hk0 hx0
  generalize L.length = n at *
  go_enter Tryz.func97, Tryz.ntmps97
  go_wp2_with fail
  refine (A0 _ bb).mono ?_
  rintro e w1 ⟨rfl, hb⟩
  replace bx := bx.keep hb
  replace bs := bs.keep hb
  replace bb := keep_below bb hb
  clear hb
  clear c0 c1
  go_wp2_with fail
  refine (A1 _ bb).mono ?_
  rintro e w1 ⟨rfl, hb⟩
  replace bx := bx.keep hb
  replace bs := bs.keep hb
  replace bb := keep_below bb hb
  clear hb
  go_wp2_with fail
  refine (D1 _).mono ?_
  rintro e w1 ⟨rfl, hb⟩
  replace bx := bx.keep hb
  replace bs := bs.keep hb
  replace bb := keep_below bb hb
  clear hb
  go_wp2_with fail
  refine (A2 _ bb).mono ?_
  rintro e w1 ⟨rfl, hb⟩
  replace bx := bx.keep hb
  replace bs := bs.keep hb
  replace bb := keep_below bb hb
  clear hb
  go_wp2_with fail
  refine (A1 _ bb).mono ?_
  rintro e w1 ⟨rfl, hb⟩
  replace bx := bx.keep hb
  replace bs := bs.keep hb
  replace bb := keep_below bb hb
  clear hb
  go_wp2_with fail
  refine (D2 _).mono ?_
  rintro e w1 ⟨rfl, hb⟩
  replace bx := bx.keep hb
  replace bs := bs.keep hb
  replace bb := keep_below bb hb
  clear hb
  go_wp2_with fail
  refine (BB.out _ bb).mono ?_
  rintro e w1 ⟨rfl, hb⟩
  replace bx := bx.keep hb
  replace bs := bs.keep hb
  replace bb := keep_below bb hb
  clear hb
  have c0 := bx.cell (o := 0) rfl
  have c1 := bx.cell (o := 1) rfl
  have c2 := bx.cell (o := 2) rfl
  have g0 := bx.frozen 0
  have g1 := bx.frozen 1
  have g2 := bx.frozen 2
  clear A0 A1 A2 D1 D2 BB
  go_wp2_with fail
  have s3 := ((bx.set 0 (.int .i64 a1)).set 1 (.int .i64 a2)).set 2 (.int .i64 a3)
  refine bodyPost_ret (v := ms a1 a2 a3) (results_cell rfl _ rfl (BoxS.load82 s3)) rfl ⟨rfl, ?_⟩
  exact ((bb.setCell (by simp) _).setCell (by simp) _).setCell (by simp) _

theorem measure_any (b off cap : Nat) (L : List (Int × Int)) (h3 : 3 ≤ L.length) (h24 : L.length ≤ 24) (hs : ∀ k, Small (px L k) ∧ Small (py L k)) (w : World)
    (hp : PtsAt w b off L) (s i : Nat) (bk : Bool) (hs0 : s < L.length) (hi : i < L.length) :
    Calls Tryz.prog 97 #[.slice (some ⟨b, off, none⟩) L.length cap, st s bk, .int .i64 i] w fun e w' => e = .returned (ms (meA L L.length s bk i) (meB L L.length s bk i) (meC L L.length s bk i)) ∧ Below w.heap.size w w' := by
  cases bk
  · exact measure_forth b off cap L h3 h24 hs w hp s i hs0 hi
  · exact measure_back b off cap L h3 h24 hs w hp s i hs0 hi

end Go.Proofs.YtcfapbccegijnaaGreat
